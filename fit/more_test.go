package fit_test

import (
	"math/rand"
	"slices"
	"testing"

	"coxswain/api"
	"coxswain/fit"
)

// takesAway holds it that where a demand may be placed beside more, it may beside less; it tells how many nodes were taken away.
func takesAway(t *testing.T, less, more situation, ask api.Res) int {
	t.Helper()
	taken := 0
	for _, n := range more.s.Nodes {
		was, is := fit.May(less.s, less.more, n.ID, ask), fit.May(more.s, more.more, n.ID, ask)
		if is && !was {
			t.Fatalf("%v may be placed on %d beside %+v, and not beside %+v", ask, n.ID, more, less)
		}
		if was && !is {
			taken++
		}
	}
	_, was := fit.Best(less.s, less.more, ask)
	id, is := fit.Best(more.s, more.more, ask)
	if is && (!was || !fit.May(less.s, less.more, id, ask)) {
		t.Fatalf("%d is best for %v beside %+v, and takes it not beside %+v", id, ask, more, less)
	}
	return taken
}

// situation is a store, and what more is there.
type situation struct {
	s    api.Store
	more []api.Alloc
}

// moreOf is a situation with one allocation more, anywhere in its list: in more, or in the store.
func moreOf(dice *rand.Rand, now situation) situation {
	one := anyAllocs(dice, 1)
	if dice.Intn(2) == 0 {
		now.more = slices.Insert(slices.Clone(now.more), dice.Intn(len(now.more)+1), one...)
		return now
	}
	now.s.Allocs = slices.Insert(slices.Clone(now.s.Allocs), dice.Intn(len(now.s.Allocs)+1), one...)
	return now
}

// P12.3: in any stores, one allocation more behind the other, in more and in the store, with any Asks at all: nodes only go.
func TestMoreOnlyTakesNodesAway(t *testing.T) {
	dice := rand.New(rand.NewSource(12))
	taken := 0
	for range 20000 {
		first := situation{anyStore(dice), anyAllocs(dice, 2)}
		ask := anyRes(dice, 12)
		now := first
		for range 6 {
			next := moreOf(dice, now)
			taken += takesAway(t, now, next, ask)
			now = next
		}
		takesAway(t, first, now, ask)
	}
	if taken < 1000 {
		t.Errorf("only %d nodes were taken away", taken)
	}
}

// P12.3: a greater demand only takes nodes away, too.
func TestAskingMoreOnlyTakesNodesAway(t *testing.T) {
	dice := rand.New(rand.NewSource(12))
	for range 20000 {
		s, more := anyStore(dice), anyAllocs(dice, 3)
		ask := res(dice.Intn(12), dice.Intn(12))
		for _, n := range s.Nodes {
			greater := res(ask.CPU+dice.Intn(3), ask.Mem+dice.Intn(3))
			if fit.May(s, more, n.ID, greater) {
				may(t, s, more, n.ID, ask, true)
			}
		}
	}
}

// P12.3: nodes go one by one as more comes, and don't come back, in whichever order it comes.
func TestNodesGoAsMoreComes(t *testing.T) {
	s, ask := nodes(up(3, 30, 30), up(1, 10, 30), up(2, 30, 10)), res(10, 10)
	best(t, s, nil, ask, 1)
	best(t, s, []api.Alloc{on(1, 1, 0)}, ask, 2)
	best(t, s, []api.Alloc{on(1, 1, 0), on(2, 0, 1)}, ask, 3)
	all := []api.Alloc{on(1, 1, 0), on(2, 0, 1), on(3, 20, 0), on(3, 1, 0)}
	best(t, s, all[:3], ask, 3)
	bestNone(t, s, all, ask)
	slices.Reverse(all)
	bestNone(t, s, all, ask)
	bestNone(t, s, append(all, on(1, -1, 0), on(2, 0, -1), on(3, -30, -30)), ask)
	bestNone(t, with(s, all...), []api.Alloc{on(1, -1, 0), on(2, 0, -1), on(3, -30, -30)}, ask)
	bestNone(t, with(s, append(all, on(1, -1, 0), on(2, 0, -1), on(3, -30, -30))...), nil, ask)
}
