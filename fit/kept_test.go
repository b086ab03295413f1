package fit_test

import (
	"math/rand"
	"reflect"
	"slices"
	"testing"

	"coxswain/api"
	"coxswain/fit"
	"coxswain/store"
)

// told is what both calls answer.
type told struct {
	may  [8]bool
	best int
	ok   bool
}

func ask(s api.Store, more []api.Alloc, demand api.Res) told {
	var out told
	for i := range out.may {
		out.may[i] = fit.May(s, more, i-1, demand)
	}
	out.best, out.ok = fit.Best(s, more, demand)
	return out
}

// roomy is the same list in new memory, with spare room that is filled with things that would count.
func roomy[T any](list []T, spare T) []T {
	return append(slices.Clone(list), spare, spare)[:len(list)]
}

// whole is the list with its spare room, in new memory.
func whole[T any](list []T) []T { return slices.Clone(list[:cap(list)]) }

// roomyStore is the store in new memory, with spare room behind the lists that are looked at.
func roomyStore(s api.Store) api.Store {
	s = store.Copy(s)
	s.Nodes = roomy(s.Nodes, up(0, 0, 0))
	s.Allocs = roomy(s.Allocs, on(1, -1, -1))
	return s
}

// R4, R5: no call changes what it is handed, nor its spare room, and none looks into that; asked again it answers the same, whatever was asked between.
func TestWhatIsHandedInStays(t *testing.T) {
	dice := rand.New(rand.NewSource(12))
	for range 5000 {
		s, more, demand := anyStore(dice), anyAllocs(dice, 4), anyRes(dice, 12)
		s.Jobs = []api.Job{{ID: 1, Groups: []api.Group{{Count: 1, Ask: demand}}}}
		s.Seen = []api.Seen{{Client: 1, Answer: api.Result{Allocs: anyAllocs(dice, 2)}}}
		handed, handedMore := roomyStore(s), roomy(more, on(1, -1, -1))
		allNodes, allAllocs, allMore := whole(handed.Nodes), whole(handed.Allocs), whole(handedMore)
		want := ask(s, more, demand)
		if ask(handed, handedMore, demand) != want {
			t.Fatalf("%+v, and %+v, are not told the same with spare room", s, more)
		}
		ask(anyStore(dice), anyAllocs(dice, 4), anyRes(dice, 12))
		if ask(handed, handedMore, demand) != want {
			t.Fatalf("%+v, and %+v, are not told the same again", s, more)
		}
		if !store.Same(handed, s) || !slices.Equal(handedMore, more) {
			t.Fatalf("%+v, and %+v, were changed", s, more)
		}
		if !slices.Equal(whole(handed.Nodes), allNodes) || !slices.Equal(whole(handed.Allocs), allAllocs) || !slices.Equal(whole(handedMore), allMore) {
			t.Fatalf("spare room of %+v, and %+v, was changed", s, more)
		}
	}
}

// R4: nil and empty lists are one.
func TestNilAndEmptyAreOne(t *testing.T) {
	dice := rand.New(rand.NewSource(12))
	if ask(api.Store{}, nil, res(0, 0)) != ask(api.Store{Nodes: []api.Node{}, Allocs: []api.Alloc{}}, []api.Alloc{}, res(0, 0)) {
		t.Error("a store of nothing")
	}
	for range 2000 {
		s, demand := anyStore(dice), anyRes(dice, 12)
		if ask(s, nil, demand) != ask(s, []api.Alloc{}, demand) {
			t.Fatalf("no more beside %+v", s)
		}
		free, empty := s, s
		free.Allocs, empty.Allocs = nil, []api.Alloc{}
		if ask(free, s.Allocs, demand) != ask(empty, s.Allocs, demand) {
			t.Fatalf("no allocations in %+v", s)
		}
	}
}

// R5: what is answered does not hang on the order in which allocations stand, nor on that of nodes with IDs of their own.
func TestOrderDoesNotCount(t *testing.T) {
	dice := rand.New(rand.NewSource(12))
	for range 5000 {
		s, more, demand := anyStore(dice), anyAllocs(dice, 4), anyRes(dice, 12)
		for i := range s.Nodes {
			s.Nodes[i].ID = i
		}
		want := ask(s, more, demand)
		turned, turnedMore := store.Copy(s), slices.Clone(more)
		dice.Shuffle(len(turned.Nodes), reflect.Swapper(turned.Nodes))
		dice.Shuffle(len(turned.Allocs), reflect.Swapper(turned.Allocs))
		dice.Shuffle(len(turnedMore), reflect.Swapper(turnedMore))
		if ask(turned, turnedMore, demand) != want {
			t.Fatalf("%+v, and %+v, are told otherwise than %+v, and %+v", turned, turnedMore, s, more)
		}
	}
}

// R1, R6: the least and the greatest numbers, in every number that is looked at, end, do not panic, and are told by the chapter's words.
func TestAnyNumbersAtAll(t *testing.T) {
	for _, a := range farNumbers() {
		for _, b := range farNumbers() {
			for _, c := range farNumbers() {
				s := with(nodes(up(a, c, b), up(b, c, c), up(1, b, c)), on(a, c, b), api.Alloc{Node: b, Ask: res(b, a), State: c})
				more := []api.Alloc{{Node: c, Ask: res(b, a), State: a}, on(1, a, 0)}
				for _, demand := range []api.Res{res(a, b), res(0, 0), res(c, c)} {
					for _, id := range []int{a, b, c, 1} {
						may(t, s, more, id, demand, leaves(s, more, id, demand) != nil)
					}
					if want, ok := bestOf(s, more, demand); ok {
						best(t, s, more, demand, want)
					} else {
						bestNone(t, s, more, demand)
					}
				}
			}
		}
	}
}
