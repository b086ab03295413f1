package fit_test

import (
	"math"
	"math/rand"
	"slices"
	"testing"

	"coxswain/api"
	"coxswain/fit"
)

// The chapter's examples.
func TestExamples(t *testing.T) {
	s := example()
	best(t, s, nil, res(50, 1), 2)
	best(t, s, nil, res(80, 1), 1)
	bestNone(t, s, nil, res(101, 1))
	best(t, s, []api.Alloc{{Node: 2, Ask: res(20, 1)}}, res(50, 1), 1)
	may(t, s, nil, 3, res(1, 1), false)
	may(t, s, nil, 1, res(1, 1), true)
}

// P12.2: 0 and false: of no node, and of nodes that are all shut or full.
func TestBestOfNone(t *testing.T) {
	bestNone(t, api.Store{}, nil, res(0, 0))
	bestNone(t, with(api.Store{}, on(1, 1, 1)), []api.Alloc{on(1, 1, 1)}, res(0, 0))
	bestNone(t, nodes(gone(1, 9, 9), drained(2, 9, 9), up(3, 4, 9), up(4, 9, 4)), nil, res(5, 5))
	bestNone(t, with(nodes(up(1, 9, 9), up(2, 9, 9)), on(1, 5, 0)), []api.Alloc{on(2, 0, 5)}, res(5, 5))
	for _, wrong := range []int{-1, math.MinInt, top + 1, math.MaxInt} {
		bestNone(t, nodes(up(1, math.MaxInt, math.MaxInt)), nil, res(wrong, 0))
		bestNone(t, nodes(up(1, math.MaxInt, math.MaxInt)), nil, res(0, wrong))
	}
}

// P12.2: of one node that one, whatever its number, if it may be placed there.
func TestBestOfOne(t *testing.T) {
	for _, id := range append(farNumbers(), 2, 3, 4) {
		best(t, nodes(up(id, 9, 9)), nil, res(9, 9), id)
		best(t, nodes(up(id, 9, 9)), nil, res(0, 0), id)
		bestNone(t, nodes(up(id, 9, 9)), nil, res(10, 0))
		bestNone(t, nodes(up(id, 9, 9)), nil, res(0, 10))
		bestNone(t, nodes(gone(id, 9, 9)), nil, res(0, 0))
		bestNone(t, nodes(drained(id, 9, 9)), nil, res(0, 0))
	}
}

// P12.2: of several the one that is left with the least, wherever it stands in the list; what is left hangs on what is used, in the store and in more, not on Cap alone.
func TestBestLeavesTheLeast(t *testing.T) {
	s := nodes(up(1, 100, 50), up(2, 90, 50), up(3, 80, 50))
	best(t, s, nil, res(10, 10), 3)
	best(t, s, nil, res(81, 10), 2)
	best(t, s, nil, res(91, 10), 1)
	best(t, nodes(up(1, 80, 50), up(2, 90, 50), up(3, 100, 50)), nil, res(10, 10), 1)
	best(t, nodes(up(1, 90, 50), up(2, 80, 50), up(3, 100, 50)), nil, res(10, 10), 2)
	best(t, with(s, on(1, 30, 0)), nil, res(10, 10), 1)
	best(t, s, []api.Alloc{on(2, 0, 30)}, res(10, 10), 2)
	best(t, with(s, on(1, 15, 0)), []api.Alloc{on(1, 0, 10), on(2, 4, 4)}, res(10, 10), 1)
	best(t, with(s, on(3, 0, 41)), []api.Alloc{on(2, 81, 0)}, res(10, 10), 1)
	over := on(1, 30, 0)
	over.State = allocDone
	best(t, with(s, over), nil, res(10, 10), 3)
	best(t, s, []api.Alloc{over}, res(10, 10), 1)
}

// P12.2: those on which it may not be placed are passed over, though they would be left with less.
func TestBestPassesOverWhereItMayNot(t *testing.T) {
	for _, shut := range []api.Node{gone(1, 10, 10), drained(1, 10, 10), up(1, 9, 11), up(1, 11, 9), up(1, -1, math.MaxInt), up(1, math.MinInt, math.MinInt)} {
		best(t, nodes(shut, up(2, 20, 20)), nil, res(10, 10), 2)
		best(t, nodes(up(2, 20, 20), shut), nil, res(10, 10), 2)
	}
	wrong := []api.Alloc{on(1, -5, 0)}
	best(t, nodes(up(1, 10, 10), up(2, 20, 20)), wrong, res(0, 0), 2)
	best(t, with(nodes(up(1, 10, 10), up(2, 20, 20)), wrong...), nil, res(0, 0), 2)
}

// P12.2: of several that are left equally much the least ID, in whatever order they stand.
func TestBestOfEqualsIsTheLeastID(t *testing.T) {
	for _, ids := range [][]int{{1, 2, 3}, {1, 3, 2}, {2, 1, 3}, {2, 3, 1}, {3, 1, 2}, {3, 2, 1}} {
		for _, shift := range []int{0, -2, -10, 100, 1 << 40} {
			var s api.Store
			for _, id := range ids {
				s.Nodes = append(s.Nodes, up(id+shift, 20, 20))
			}
			best(t, s, nil, res(5, 5), 1+shift)
			best(t, s, []api.Alloc{on(3+shift, 1, 0), on(2+shift, 0, 1)}, res(5, 5), 2+shift)
			best(t, with(s, on(3+shift, 0, 0)), nil, res(20, 20), 1+shift)
		}
	}
	best(t, nodes(up(math.MaxInt, 5, 5), up(math.MinInt, 5, 5), up(0, 5, 5)), nil, res(1, 1), math.MinInt)
	best(t, nodes(up(4, 20, 20), up(3, 25, 15), up(2, 30, 30), up(5, 10, 30)), nil, res(5, 5), 3)
}

// P12.2: CPU and Mem together decide: neither of them alone, nor the one ahead of the other, nor the greater nor the lesser of them.
func TestBestTakesBothTogether(t *testing.T) {
	best(t, nodes(up(1, 10, 13), up(2, 11, 11)), nil, res(10, 10), 2)
	best(t, nodes(up(1, 13, 10), up(2, 11, 11)), nil, res(10, 10), 2)
	best(t, nodes(up(1, 12, 12), up(2, 13, 10)), nil, res(10, 10), 2)
	best(t, nodes(up(1, 12, 12), up(2, 10, 13)), nil, res(10, 10), 2)
	best(t, nodes(up(1, 14, 11), up(2, 12, 12)), nil, res(10, 10), 2)
	best(t, nodes(up(1, 10, 14), up(2, 13, 10)), nil, res(10, 10), 2)
	best(t, nodes(up(2, 12, 11), up(1, 11, 12)), nil, res(10, 10), 1)
	best(t, nodes(up(1, 1000, 10), up(2, 500, 509)), nil, res(10, 10), 2)
}

// P12.2: of those of one ID the first alone counts, though the others would be left with less.
func TestBestAsksTheFirstOfTwo(t *testing.T) {
	best(t, nodes(up(1, 100, 50), up(2, 20, 20), up(1, 10, 10)), nil, res(10, 10), 2)
	best(t, nodes(up(1, 10, 10), up(2, 20, 20), up(1, 100, 50)), nil, res(10, 10), 1)
	best(t, nodes(gone(1, 10, 10), up(2, 20, 20), up(1, 10, 10)), nil, res(10, 10), 2)
	best(t, nodes(up(1, 9, 9), up(2, 20, 20), up(1, 10, 10)), nil, res(10, 10), 2)
	bestNone(t, nodes(drained(1, 10, 10), up(1, 10, 10)), nil, res(10, 10))
	best(t, nodes(up(1, 10, 10), up(1, 10, 10)), nil, res(10, 10), 1)
}

// P12.2: what is left is told right where CPU and Mem together are more than a number has room for.
func TestBestOfFarCaps(t *testing.T) {
	const most = math.MaxInt
	best(t, nodes(up(1, most, most), up(2, most, 5)), nil, res(5, 5), 2)
	best(t, nodes(up(1, most, most), up(2, 5, most)), nil, res(5, 5), 2)
	best(t, nodes(up(1, most, most), up(2, most, most-1)), nil, res(0, 0), 2)
	best(t, nodes(up(1, most, 3), up(2, most-1, 3)), nil, res(1, 1), 2)
	best(t, nodes(up(2, most, most), up(1, most, most)), nil, res(top, top), 1)
	best(t, nodes(up(1, most, 1), up(2, 1, 1)), nil, res(0, 0), 2)
	best(t, with(nodes(up(1, most, most), up(2, most, most)), on(2, -1, 0)), nil, res(0, 0), 2)
}

// P12.2: any stores, against the chapter's words in numbers that do not wrap round; and the best one is one on which it may be placed.
func TestBestOfAny(t *testing.T) {
	dice := rand.New(rand.NewSource(12))
	found, none := 0, 0
	for range 100000 {
		s, more, ask := anyStore(dice), anyAllocs(dice, 4), anyRes(dice, 12)
		want, ok := bestOf(s, more, ask)
		if !ok {
			bestNone(t, s, more, ask)
			none++
			continue
		}
		best(t, s, more, ask, want)
		may(t, s, more, want, ask, true)
		found++
	}
	if found < 10000 || none < 10000 {
		t.Errorf("only %d with a best node, and only %d without", found, none)
	}
}

// P12.2: tasks that are placed one behind the other fill the nodes, and none beyond its Cap.
func TestBestFillsTheNodes(t *testing.T) {
	s := with(nodes(up(2, 100, 50), up(1, 60, 50), drained(3, 60, 50), gone(4, 60, 50)), on(2, 30, 5))
	var more []api.Alloc
	var ids []int
	for range 20 {
		id, ok := fit.Best(s, more, res(20, 10))
		if !ok {
			break
		}
		ids = append(ids, id)
		more = append(more, on(id, 20, 10))
	}
	if want := []int{1, 1, 1, 2, 2, 2}; !slices.Equal(ids, want) {
		t.Fatalf("%v; not %v", ids, want)
	}
	may(t, s, more, 2, res(10, 15), true)
	may(t, s, more, 1, res(0, 20), true)
}
