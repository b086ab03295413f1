package store_test

import (
	"math"
	"math/big"
	"math/rand"
	"testing"

	"coxswain/api"
)

// on is a store with an allocation of each of these Asks on node 3, in the states that are not over by turns, each in a slot, job and version of its own.
func on(asks ...api.Res) api.Store {
	var s api.Store
	for i, ask := range asks {
		s.Allocs = append(s.Allocs, api.Alloc{ID: i + 1, Job: i, Version: i, Group: i, Index: i, Epoch: i, Node: 3, Ask: ask, Stop: i%2 == 1, State: allocNew + i%2})
	}
	return s
}

// P10.3: the sum of the Asks on this node, whatever else the allocations have, and whether the node is there or not.
func TestUsedIsTheSum(t *testing.T) {
	used(t, api.Store{}, 3, res(0, 0))
	used(t, api.Store{Allocs: []api.Alloc{}}, 3, res(0, 0))
	used(t, on(), 3, res(0, 0))
	used(t, on(res(0, 0)), 3, res(0, 0))
	used(t, on(res(10, 1)), 3, res(10, 1))
	used(t, on(res(10, 1), res(5, 7)), 3, res(15, 8))
	used(t, on(res(10, 1), res(10, 1), res(0, 3), res(4, 0)), 3, res(24, 5))
	used(t, on(res(10, 1), res(5, 7)), 2, res(0, 0))
	used(t, on(res(10, 1), res(5, 7)), 0, res(0, 0))
	for _, nodes := range [][]api.Node{nil, {{ID: 3}}, {{ID: 3, Up: true, Drain: true, Cap: res(1, 1)}}, {{ID: 2, Cap: res(9, 9)}}} {
		s := on(res(10, 1), res(5, 7))
		s.Nodes = nodes
		used(t, s, 3, res(15, 8))
	}
}

// P10.3: only those whose Node it is: not those that have the number elsewhere.
func TestUsedAsksTheNode(t *testing.T) {
	s := api.Store{Allocs: []api.Alloc{
		{ID: 3, Job: 3, Version: 3, Group: 3, Index: 3, Epoch: 3, Node: 1, Ask: res(1, 2), State: allocRunning},
		{ID: 1, Job: 1, Version: 1, Group: 1, Index: 1, Epoch: 1, Node: 3, Ask: res(30, 40), State: allocRunning},
		{ID: 1, Node: 2, Ask: res(500, 600), State: allocNew},
	}}
	used(t, s, 1, res(1, 2))
	used(t, s, 2, res(500, 600))
	used(t, s, 3, res(30, 40))
	for i, n := range farNumbers() {
		far := api.Store{Allocs: []api.Alloc{{Node: n, Ask: res(7, 8)}, {Node: 77, Ask: res(1, 1)}}}
		used(t, far, n, res(7, 8))
		used(t, far, farNumbers()[(i+1)%len(farNumbers())], res(0, 0))
		used(t, far, 77, res(1, 1))
	}
}

// P10.3: those that are over count for nothing, wherever they stand, and if their Asks can't be added too; those that are not over do, those to Stop and those with a State below all that may be too.
func TestUsedPassesOverWhatIsOver(t *testing.T) {
	for state, counts := range map[int]bool{
		allocNew: true, allocRunning: true, allocDone: false, allocFailed: false, allocEnded: false, allocLost: false,
		0: true, -1: true, 7: false, math.MinInt: true, math.MaxInt: false,
	} {
		for at := range 3 {
			s := on(res(10, 1), res(20, 2), res(40, 4))
			s.Allocs[at].State = state
			want := res(70, 7)
			if !counts {
				want = res(70-10<<at, 7-1<<at)
			}
			used(t, s, 3, want)
			for _, wrong := range []int{-1, top, top + 1, math.MinInt, math.MaxInt} {
				s.Allocs[at].Ask = res(wrong, wrong)
				bad := want
				if counts {
					bad = res(top, top)
				}
				used(t, s, 3, bad)
			}
		}
	}
}

// P10.3: a number below 0 or above 2^60, alone or beside others, on whichever side, can't be added; on another node it does nothing.
func TestUsedThatCannotBeAdded(t *testing.T) {
	most := res(top, top)
	for _, wrong := range []int{-1, -2, -5, -top, math.MinInt, math.MinInt + 1, top + 1, 1 << 61, 1 << 62, math.MaxInt} {
		for _, bad := range []api.Res{res(wrong, 0), res(0, wrong), res(wrong, 5), res(5, wrong), res(wrong, wrong), res(wrong, -wrong)} {
			used(t, on(bad), 3, most)
			used(t, on(bad, res(10, 10)), 3, most)
			used(t, on(res(10, 10), bad), 3, most)
			used(t, on(res(10, 10), bad, res(10, 10)), 3, most)
			used(t, on(bad, bad), 3, most)
			used(t, on(bad, bad, bad, bad), 3, most)
			s := on(bad, res(10, 1))
			s.Allocs[0].Node = 2
			used(t, s, 3, res(10, 1))
			used(t, s, 2, most)
		}
	}
	used(t, on(res(-5, 0), res(5, 0)), 3, most)
	used(t, on(res(5, 0), res(-5, 0)), 3, most)
}

// P10.3: sums just at 2^60, one below it and one above it, of one number and of the other, whose wrap-round would be small.
func TestUsedAtTheMostThatMayBe(t *testing.T) {
	used(t, on(res(top, top)), 3, res(top, top))
	used(t, on(res(top, 0)), 3, res(top, 0))
	used(t, on(res(0, top)), 3, res(0, top))
	used(t, on(res(top, 3), res(0, 4)), 3, res(top, 7))
	used(t, on(res(top-1, 1), res(1, top-1)), 3, res(top, top))
	used(t, on(res(top-1, 1), res(0, top-2)), 3, res(top-1, top-1))
	used(t, on(res(top/2, 0), res(top/2, 1)), 3, res(top, 1))
	used(t, on(res(top, 0), res(1, 0)), 3, res(top, top))
	used(t, on(res(0, top), res(0, 1)), 3, res(top, top))
	used(t, on(res(1, 0), res(top, 0)), 3, res(top, top))
	used(t, on(res(top/2, 0), res(top/2, 1), res(1, 0)), 3, res(top, top))
	var many []api.Res
	for range 16 {
		many = append(many, res(top, 0))
	}
	used(t, on(many...), 3, res(top, top))
	used(t, on(append(many, many...)...), 3, res(top, top))
}

// sumOf is the chapter's word said with numbers that do not wrap round; the order of Allocs is nothing to it.
func sumOf(s api.Store, node int) api.Res {
	cpu, mem, most := new(big.Int), new(big.Int), big.NewInt(top)
	for _, a := range s.Allocs {
		if a.Node != node || a.State >= allocDone {
			continue
		}
		if a.Ask.CPU < 0 || a.Ask.Mem < 0 {
			return res(top, top)
		}
		cpu.Add(cpu, big.NewInt(int64(a.Ask.CPU)))
		mem.Add(mem, big.NewInt(int64(a.Ask.Mem)))
	}
	if cpu.Cmp(most) > 0 || mem.Cmp(most) > 0 {
		return res(top, top)
	}
	return res(int(cpu.Int64()), int(mem.Int64()))
}

// P10.3: any allocations at all, in any order.
func TestUsedOfAny(t *testing.T) {
	dice := rand.New(rand.NewSource(10))
	whole, lacking := 0, 0
	for range 40000 {
		s := anyStore(dice, 6)
		for node := range 5 {
			want := sumOf(s, node)
			used(t, s, node, want)
			dice.Shuffle(len(s.Allocs), func(i, j int) { s.Allocs[i], s.Allocs[j] = s.Allocs[j], s.Allocs[i] })
			used(t, s, node, want)
			if want == res(top, top) {
				lacking++
			} else if want != res(0, 0) {
				whole++
			}
		}
	}
	if whole < 1000 || lacking < 1000 {
		t.Errorf("only %d sums, and only %d that can't be", whole, lacking)
	}
}
