package fit_test

import (
	"math"
	"math/rand"
	"testing"

	"coxswain/api"
)

// P12.1: without a node of the ID there is no place, whatever is asked, and whoever else has the number.
func TestMayAsksForTheNode(t *testing.T) {
	may(t, api.Store{}, nil, 0, res(0, 0), false)
	may(t, api.Store{}, nil, 1, res(0, 0), false)
	may(t, api.Store{}, []api.Alloc{on(1, 0, 0)}, 1, res(0, 0), false)
	may(t, with(api.Store{}, on(1, 0, 0)), nil, 1, res(0, 0), false)
	s := nodes(api.Node{ID: 2, Up: true, Cap: res(5, 5), Boot: 7, Epoch: 8, Seq: 9})
	s.Jobs = []api.Job{{ID: 3}}
	for _, id := range []int{-2, 0, 1, 3, 5, 7, 8, 9, 2 + 1<<8, 2 + 1<<32} {
		may(t, s, nil, id, res(0, 0), false)
	}
	may(t, s, nil, 2, res(0, 0), true)
	for _, id := range farNumbers() {
		may(t, nodes(up(77, 9, 9), up(id, 5, 5)), nil, id, res(5, 5), true)
		may(t, nodes(up(77, 9, 9)), nil, id, res(0, 0), false)
	}
}

// P12.1: of two of one ID the first counts: whether it is Up, its Drain and its Cap.
func TestMayAsksTheFirstOfTwo(t *testing.T) {
	open, small := up(1, 100, 50), up(1, 10, 5)
	for _, shut := range []api.Node{gone(1, 100, 50), drained(1, 100, 50), small} {
		may(t, nodes(up(2, 1, 1), open, shut), nil, 1, res(11, 5), true)
		may(t, nodes(shut, up(2, 1, 1), open), nil, 1, res(11, 5), false)
	}
	may(t, nodes(small, open), nil, 1, res(10, 5), true)
	may(t, nodes(small, open), nil, 1, res(10, 6), false)
	may(t, nodes(gone(1, 9, 9), drained(1, 9, 9), open), nil, 1, res(0, 0), false)
}

// P12.1: it is Up, and not Drain; all else that a node has does not count.
func TestMayAsksUpAndDrain(t *testing.T) {
	for _, ask := range []api.Res{res(0, 0), res(1, 1), res(100, 50)} {
		may(t, nodes(up(1, 100, 50)), nil, 1, ask, true)
		may(t, nodes(drained(1, 100, 50)), nil, 1, ask, false)
		may(t, nodes(gone(1, 100, 50)), nil, 1, ask, false)
		may(t, nodes(api.Node{ID: 1, Drain: true, Cap: res(100, 50)}), nil, 1, ask, false)
		for _, far := range farNumbers() {
			may(t, nodes(api.Node{ID: 1, Up: true, Cap: res(100, 50), Boot: far, Epoch: far, Seq: far}), nil, 1, ask, true)
		}
	}
}

// just holds it that of a node of (100, 50) just (cpu, mem) is left.
func just(t *testing.T, s api.Store, more []api.Alloc, cpu, mem int) {
	t.Helper()
	may(t, s, more, 1, res(cpu, mem), true)
	may(t, s, more, 1, res(cpu, 0), true)
	may(t, s, more, 1, res(0, mem), true)
	may(t, s, more, 1, res(0, 0), true)
	may(t, s, more, 1, res(cpu+1, mem), false)
	may(t, s, more, 1, res(cpu, mem+1), false)
	may(t, s, more, 1, res(cpu+1, 0), false)
	may(t, s, more, 1, res(0, mem+1), false)
}

// P12.1: what just fits, and one too much of each of the two, beside nothing, beside what the store has, beside more, and beside both.
func TestMayJust(t *testing.T) {
	s := nodes(up(2, 500, 500), up(1, 100, 50))
	stored := with(s, on(1, 20, 3), on(1, 5, 9))
	more := []api.Alloc{on(1, 30, 2), on(1, 1, 6)}
	just(t, s, nil, 100, 50)
	just(t, stored, nil, 75, 38)
	just(t, s, more, 69, 42)
	just(t, stored, more, 44, 30)
	just(t, with(stored, on(1, 75, 0)), nil, 0, 38)
	just(t, with(stored, on(1, 0, 38)), nil, 75, 0)
	just(t, stored, append(more, on(1, 44, 30)), 0, 0)
	just(t, nodes(up(1, 0, 0)), nil, 0, 0)
}

// P12.1: a node that is filled beyond its Cap already takes nothing, not even a demand of nothing, nor one of the other thing alone.
func TestMayBeyondCap(t *testing.T) {
	s := nodes(up(1, 100, 50))
	for _, a := range []api.Alloc{on(1, 101, 0), on(1, 0, 51), on(1, 101, 51)} {
		for _, ask := range []api.Res{res(0, 0), res(1, 0), res(0, 1)} {
			may(t, with(s, a), nil, 1, ask, false)
			may(t, s, []api.Alloc{a}, 1, ask, false)
		}
	}
}

// P12.1: of the store's allocations those that are over count for nothing, with Asks that can't be added too; those that are not over count, those to Stop too.
func TestMayPassesOverWhatIsOver(t *testing.T) {
	for state, counts := range map[int]bool{
		allocNew: true, allocRunning: true, allocDone: false, allocFailed: false, allocEnded: false, allocLost: false,
		0: true, -1: true, 7: false, math.MinInt: true, math.MaxInt: false,
	} {
		for _, stop := range []bool{false, true} {
			a := api.Alloc{Node: 1, Ask: res(40, 20), State: state, Stop: stop}
			s := with(nodes(up(1, 100, 50)), on(1, 10, 5), a, on(1, 1, 1))
			if counts {
				just(t, s, nil, 49, 24)
			} else {
				just(t, s, nil, 89, 44)
			}
			for _, wrong := range []int{-1, top + 1, math.MinInt, math.MaxInt} {
				s.Allocs[1].Ask = res(wrong, wrong)
				may(t, s, nil, 1, res(0, 0), !counts)
			}
		}
	}
}

// P12.1: of more all count, whatever their State, and whether they are to Stop.
func TestMayCountsMoreInAnyState(t *testing.T) {
	s := with(nodes(up(1, 100, 50)), on(1, 10, 5))
	states := append(farNumbers(), allocNew, allocRunning, allocDone, allocFailed, allocEnded, allocLost, 7)
	for _, state := range states {
		for _, stop := range []bool{false, true} {
			a := api.Alloc{Node: 1, Ask: res(40, 20), State: state, Stop: stop}
			just(t, s, []api.Alloc{a}, 50, 25)
			just(t, s, []api.Alloc{on(2, 7, 7), a, on(1, 1, 1)}, 49, 24)
		}
	}
}

// P12.1: only what is on this node counts, told by its Node, not by the number's standing elsewhere; what is on another does nothing, if it can't be added too.
func TestMayCountsThisNode(t *testing.T) {
	s := nodes(up(1, 100, 50), up(2, 100, 50))
	there := api.Alloc{ID: 2, Job: 2, Version: 2, Group: 2, Index: 2, Epoch: 2, Node: 1, Ask: res(40, 20), State: allocNew}
	elsewhere := api.Alloc{ID: 1, Job: 1, Version: 1, Group: 1, Index: 1, Epoch: 1, Node: 2, Ask: res(7, 7), State: allocNew}
	just(t, with(s, there, elsewhere), nil, 60, 30)
	just(t, s, []api.Alloc{elsewhere, there}, 60, 30)
	just(t, with(s, elsewhere), []api.Alloc{elsewhere}, 100, 50)
	for _, node := range []int{2, 3, 0, -1, 1 + 1<<32, math.MinInt, math.MaxInt} {
		for _, wrong := range []int{-1, top, math.MinInt, math.MaxInt} {
			a := on(node, wrong, wrong)
			just(t, with(s, a, there, a), []api.Alloc{a, there, a}, 20, 10)
		}
	}
}

// P12.1: where the store's Asks can't be added (2^60, 2^60) is used: only a node with as much as that takes a demand of nothing.
func TestMayWhereTheStoreCannotBeAdded(t *testing.T) {
	for _, wrong := range [][]api.Alloc{
		{on(1, -1, 0)}, {on(1, 0, -1)}, {on(1, math.MinInt, 5)}, {on(1, top+1, 0)}, {on(1, 0, math.MaxInt)},
		{on(1, top, 0), on(1, 1, 0)}, {on(1, 0, 1), on(1, 0, top)}, {on(1, 5, 5), on(1, -1, 5)}, {on(1, math.MaxInt, 0), on(1, math.MaxInt, 0)},
	} {
		for _, most := range []api.Res{res(0, 0), res(1<<40, 1<<40), res(top-1, top), res(top, top-1), res(math.MaxInt, 1)} {
			may(t, with(nodes(up(1, most.CPU, most.Mem)), wrong...), nil, 1, res(0, 0), false)
		}
		for _, most := range []int{top, top + 1, math.MaxInt} {
			s := with(nodes(up(1, most, most)), wrong...)
			may(t, s, nil, 1, res(0, 0), true)
			may(t, s, nil, 1, res(1, 0), false)
			may(t, s, nil, 1, res(0, 1), false)
			may(t, s, []api.Alloc{on(1, 0, 0)}, 1, res(0, 0), true)
			may(t, s, []api.Alloc{on(1, 1, 0)}, 1, res(0, 0), false)
			may(t, s, []api.Alloc{on(1, 0, 1)}, 1, res(0, 0), false)
		}
	}
}

// P12.1: where more can't be added, to one another or to what the store has, nothing may be placed, whatever Cap is and however little is asked.
func TestMayWhereMoreCannotBeAdded(t *testing.T) {
	most := nodes(up(1, math.MaxInt, math.MaxInt))
	for _, more := range [][]api.Alloc{
		{on(1, -1, 0)}, {on(1, 0, -1)}, {on(1, 5, 5), on(1, -1, 0)}, {on(1, -1, 0), on(1, 5, 5)}, {on(1, math.MinInt, math.MinInt)},
		{on(1, top+1, 0)}, {on(1, 0, top+1)}, {on(1, math.MaxInt, math.MaxInt)}, {on(1, top, 0), on(1, 1, 0)}, {on(1, 0, 1), on(1, 0, top)},
		{on(1, math.MaxInt, 0), on(1, math.MaxInt, 0), on(1, 2, 0)}, {on(1, 1<<62, 0), on(1, 1<<62, 0), on(1, 1<<62, 0), on(1, 1<<62, 0)},
	} {
		may(t, most, more, 1, res(0, 0), false)
		may(t, with(most, on(1, 7, 7)), more, 1, res(0, 0), false)
		may(t, most, append(more, on(2, 1, 1), on(1, 0, 0)), 1, res(0, 0), false)
	}
	may(t, most, []api.Alloc{on(1, top, 1), on(1, 0, top-1)}, 1, res(0, 0), true)
	may(t, with(most, on(1, top-1, 1)), []api.Alloc{on(1, 1, top-1)}, 1, res(0, 0), true)
	may(t, with(most, on(1, top-1, 1)), []api.Alloc{on(1, 2, 0)}, 1, res(0, 0), false)
	may(t, with(most, on(1, top-1, 1)), []api.Alloc{on(1, 0, top)}, 1, res(0, 0), false)
}

// P12.1: a demand that can't be added does not fit, whatever Cap is; a Cap above 2^60 is no fault, one below 0 takes nothing.
func TestMayOfFarDemandsAndCaps(t *testing.T) {
	most := nodes(up(1, math.MaxInt, math.MaxInt))
	for _, wrong := range []int{-1, -top, math.MinInt, top + 1, math.MaxInt} {
		may(t, most, nil, 1, res(wrong, 0), false)
		may(t, most, nil, 1, res(0, wrong), false)
		may(t, with(most, on(1, 5, 5)), []api.Alloc{on(1, 5, 5)}, 1, res(wrong, wrong), false)
	}
	may(t, most, nil, 1, res(top, top), true)
	may(t, with(most, on(1, 1, 0)), nil, 1, res(top-1, top), true)
	may(t, with(most, on(1, 1, 0)), nil, 1, res(top, top), false)
	for _, less := range []int{-1, -top, math.MinInt} {
		may(t, nodes(up(1, less, 5)), nil, 1, res(0, 0), false)
		may(t, nodes(up(1, 5, less)), nil, 1, res(0, 0), false)
		may(t, nodes(up(1, less, less)), nil, 1, res(less, less), false)
	}
}

// P12.1: any stores, against the chapter's words in numbers that do not wrap round.
func TestMayOfAny(t *testing.T) {
	dice := rand.New(rand.NewSource(12))
	yes, no := 0, 0
	for range 60000 {
		s, more, ask := anyStore(dice), anyAllocs(dice, 4), anyRes(dice, 12)
		for id := range 6 {
			want := leaves(s, more, id, ask) != nil
			may(t, s, more, id, ask, want)
			if want {
				yes++
			} else {
				no++
			}
		}
		id := anyNumber(dice, 6)
		may(t, s, more, id, ask, leaves(s, more, id, ask) != nil)
	}
	if yes < 10000 || no < 10000 {
		t.Errorf("only %d that may be placed, and only %d that may not", yes, no)
	}
}
