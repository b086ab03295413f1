package sched_test

import (
	"math"
	"testing"

	"coxswain/api"
	"coxswain/sched"
)

// counted are kinds of jobs whose slots are counted: all but system jobs, those with a Type that is none of the three too.
func counted() []int {
	return []int{service, batch, 0, 4, -1, system + 1<<8, system + 1<<32, math.MinInt, math.MaxInt}
}

// The chapter's examples.
func TestExamples(t *testing.T) {
	s := with(of(job(service, group(2, 50, 1)), up(1, 100, 50), up(2, 60, 50), drained(3, 60, 50)), at(5, 0, 0, 1), at(6, 0, 1, 1))
	is(t, s, ids(5), nil, false)
	s.Allocs[0].State = allocEnded
	fills(t, s, 0, 0, 2)
}

// The job of the whole's examples: both tasks on one node, for the second leaves less there.
func TestExampleOfTheWhole(t *testing.T) {
	s := of(job(service, group(2, 40, 5)), up(1, 100, 50), up(2, 100, 50))
	fills(t, s, 0, 0, 1, 0, 1, 1)
	s.Jobs[0].Groups[0].Ask = res(500, 5)
	blocks(t, s)
}

// P14.1: each field of a place is told, and all else is 0.
func TestFieldsOfAPlace(t *testing.T) {
	j := api.Job{ID: 11, Type: batch, Priority: 12, Parallel: 13, Version: 14, Groups: []api.Group{group(1, 1, 1), group(3, 15, 16)}}
	s := of(j, api.Node{ID: 17, Cap: res(100, 101), Up: true, Boot: 18, Epoch: 19, Seq: 20})
	s.Index, s.Next = 21, 22
	s.Allocs = []api.Alloc{{ID: 23, Job: 11, Version: 14, Group: 0, State: allocRunning}, {ID: 24, Job: 11, Version: 14, Group: 1, Index: 0, State: allocDone}, {ID: 25, Job: 11, Version: 14, Group: 1, Index: 1, State: allocNew}}
	place := api.Alloc{ID: 0, Job: 11, Version: 14, Group: 1, Index: 2, Node: 17, Epoch: 19, Ask: res(15, 16), Stop: false, State: 0}
	plan(t, s, 11, api.Plan{Job: 11, Version: 14, Index: 41, Places: []api.Alloc{place}})
	s.Jobs[0].Type, s.Allocs = system, nil
	one, two := place, place
	one.Group, one.Index, one.Ask, two.Index = 0, 17, res(1, 1), 17
	plan(t, s, 11, api.Plan{Job: 11, Version: 14, Index: 41, Places: []api.Alloc{one, two}})
}

// P14.1: the Epoch is that of the node, whatever it is, and of the first of one ID.
func TestEpochOfTheNode(t *testing.T) {
	for _, kind := range []int{service, batch, system, 0} {
		for _, epoch := range farNumbers() {
			one, two := up(0, 9, 9), up(0, 9, 9)
			one.Epoch, two.Epoch = epoch, 5
			s := of(job(kind, group(1, 3, 3)), up(8, 1, 1), one, two)
			if kind == system {
				s.Nodes = s.Nodes[1:]
			}
			want := api.Alloc{Job: 1, Version: 2, Node: 0, Epoch: epoch, Ask: res(3, 3)}
			is(t, s, nil, []api.Alloc{want}, false)
		}
	}
}

// P14.1: the Ask is that of the slot's group.
func TestAskOfTheGroup(t *testing.T) {
	for _, kind := range counted() {
		s := of(job(kind, group(1, 1, 2), group(2, 3, 4), group(0, 99, 99), group(1, 0, 0)), up(1, 100, 100))
		got := sched.Plan(s, 1)
		want := []api.Res{res(1, 2), res(3, 4), res(3, 4), res(0, 0)}
		for i, a := range got.Places {
			if a.Ask != want[i] {
				t.Errorf("the Type %d: %+v asks not %v", kind, a, want[i])
			}
		}
		fills(t, s, 0, 0, 1, 1, 0, 1, 1, 1, 1, 3, 0, 1)
	}
}

// P14.1: no slot, one, and several in the order of the slots, beside those that are held.
func TestPlacesInTheirOrder(t *testing.T) {
	for _, kind := range counted() {
		s := of(job(kind, group(3, 1, 1), group(2, 1, 1)), up(1, 100, 100))
		fills(t, s, 0, 0, 1, 0, 1, 1, 0, 2, 1, 1, 0, 1, 1, 1, 1)
		s = with(s, at(9, 1, 0, 2), at(8, 0, 1, 2))
		fills(t, s, 0, 0, 1, 0, 2, 1, 1, 1, 1)
		s = with(s, at(7, 0, 2, 2), toStop(at(6, 1, 1, 2)))
		fills(t, s, 0, 0, 1)
		s = with(s, in(allocNew, at(5, 0, 0, 2)))
		fills(t, s)
		s.Jobs[0].Groups, s.Allocs = []api.Group{group(9, 1, 1)}, nil
		fills(t, s, 0, 0, 1, 0, 1, 1, 0, 2, 1, 0, 3, 1)
	}
}

// P14.1: what is over in a slot is no matter, but of a batch job what is done.
func TestPlacesWhereItIsOver(t *testing.T) {
	for _, kind := range counted() {
		for _, state := range []int{allocDone, allocFailed, allocEnded, allocLost} {
			s := with(of(job(kind, group(1, 1, 1)), up(1, 100, 100)), in(state, at(9, 0, 0, 2)))
			if kind == batch && state == allocDone {
				fills(t, s)
			} else {
				fills(t, s, 0, 0, 1)
			}
		}
	}
}

// P14.1: of any but a system job the node is the one on which least is left, beside what the store has.
func TestBestNode(t *testing.T) {
	for _, kind := range counted() {
		s := of(job(kind, group(1, 50, 1)), up(1, 100, 50), up(2, 60, 50), drained(3, 60, 50), gone(4, 50, 1))
		fills(t, s, 0, 0, 2)
		s.Jobs[0].Groups[0].Ask = res(80, 1)
		fills(t, s, 0, 0, 1)
		s.Jobs[0].Groups[0].Ask = res(101, 1)
		blocks(t, s)
		s.Jobs[0].Groups[0].Ask = res(50, 1)
		fills(t, with(s, other(2, 11, 0)), 0, 0, 1)
		fills(t, with(s, in(allocDone, other(2, 11, 0))), 0, 0, 2)
		fills(t, with(s, other(1, 40, 49)), 0, 0, 1)
		fills(t, with(s, toStop(other(2, 11, 0))), 0, 0, 1)
		blocks(t, with(s, other(2, 11, 0), other(1, 51, 0)))
	}
}

// P14.1: of nodes that are alike the one with the least ID is taken, wherever it stands; then the one that was taken, as long as it has room, for less is left there.
func TestNodesThatAreAlike(t *testing.T) {
	for _, kind := range counted() {
		s := of(job(kind, group(4, 10, 10)), up(7, 25, 25), up(3, 25, 25), up(5, 25, 25))
		fills(t, s, 0, 0, 3, 0, 1, 3, 0, 2, 5, 0, 3, 5)
		s.Jobs[0].Groups[0].Ask = res(20, 1)
		blocks(t, s, 0, 0, 3, 0, 1, 5, 0, 2, 7)
		s.Nodes[0].ID = -7
		blocks(t, s, 0, 0, -7, 0, 1, 3, 0, 2, 5)
	}
}

// P14.1: a node that is just filled by the Places so far is passed over, in CPU and in Mem, and beside what the store has.
func TestBesideThePlacesSoFar(t *testing.T) {
	for _, kind := range counted() {
		s := of(job(kind, group(3, 10, 1)), up(1, 20, 99), up(2, 500, 500))
		fills(t, s, 0, 0, 1, 0, 1, 1, 0, 2, 2)
		s.Nodes[0].Cap = res(99, 2)
		fills(t, s, 0, 0, 1, 0, 1, 1, 0, 2, 2)
		s.Nodes[0].Cap = res(29, 99)
		fills(t, s, 0, 0, 1, 0, 1, 1, 0, 2, 2)
		s.Nodes[0].Cap = res(30, 99)
		fills(t, s, 0, 0, 1, 0, 1, 1, 0, 2, 1)
		s = with(s, other(1, 11, 0))
		fills(t, s, 0, 0, 1, 0, 1, 2, 0, 2, 2)
		s.Nodes = s.Nodes[:1]
		blocks(t, s, 0, 0, 1)
	}
}

// P14.1: the Places so far, of other groups too, change which node is best: the next one goes where they left less.
func TestPlacesSoFarMakeAnotherBest(t *testing.T) {
	for _, kind := range counted() {
		s := of(job(kind, group(1, 60, 0), group(1, 5, 0), group(1, 36, 0)), up(1, 100, 0), up(2, 50, 0))
		fills(t, s, 0, 0, 1, 1, 0, 1, 2, 0, 2)
		s.Jobs[0].Groups[1], s.Jobs[0].Groups[0] = s.Jobs[0].Groups[0], s.Jobs[0].Groups[1]
		fills(t, s, 0, 0, 2, 1, 0, 1, 2, 0, 1)
	}
}

// P14.1: of a system job each slot is placed on its own node, in the order of the nodes, group by group, never on another one that leaves less.
func TestSystemOnItsOwnNode(t *testing.T) {
	s := of(job(system, group(1, 10, 10), group(1, 5, 5)), up(4, 100, 100), up(2, 15, 15), drained(5, 99, 99), up(3, 50, 50), gone(1, 99, 99))
	fills(t, s, 0, 4, 4, 0, 2, 2, 0, 3, 3, 1, 4, 4, 1, 2, 2, 1, 3, 3)
	s = with(s, at(9, 0, 2, 2), at(8, 1, 4, 2))
	fills(t, s, 0, 4, 4, 0, 3, 3, 1, 2, 2, 1, 3, 3)
	s.Jobs[0].Groups = []api.Group{{Count: 0, Ask: res(1, 1)}}
	s.Allocs = nil
	fills(t, s, 0, 4, 4, 0, 2, 2, 0, 3, 3)
}

// P14.1: of a system job a node without room is not filled, and no other takes its task; the Places so far, of another group, count there.
func TestSystemWhereItMayNot(t *testing.T) {
	s := of(job(system, group(1, 10, 10)), up(4, 9, 99), up(2, 10, 10), up(3, 99, 9))
	blocks(t, s, 0, 2, 2)
	s.Nodes[0].Cap, s.Nodes[2].Cap = res(30, 30), res(30, 30)
	fills(t, s, 0, 4, 4, 0, 2, 2, 0, 3, 3)
	blocks(t, with(s, other(4, 21, 0), other(3, 20, 0)), 0, 2, 2, 0, 3, 3)
	s.Jobs[0].Groups = append(s.Jobs[0].Groups, group(1, 1, 0))
	blocks(t, s, 0, 4, 4, 0, 2, 2, 0, 3, 3, 1, 4, 4, 1, 3, 3)
	s.Jobs[0].Groups[1].Ask = res(0, 0)
	fills(t, s, 0, 4, 4, 0, 2, 2, 0, 3, 3, 1, 4, 4, 1, 2, 2, 1, 3, 3)
}

// P14.1: of two nodes of one ID the first says whether a system job's task may be placed.
func TestSystemOfTwoNodes(t *testing.T) {
	s := of(job(system, group(1, 10, 10)), up(4, 10, 10), up(4, 50, 50))
	fills(t, s, 0, 4, 4)
	for _, shut := range []api.Node{gone(4, 50, 50), drained(4, 50, 50), up(4, 9, 50)} {
		s.Nodes = []api.Node{shut, up(4, 50, 50)}
		blocks(t, s)
		s.Nodes = []api.Node{up(4, 10, 10), shut}
		fills(t, s, 0, 4, 4)
	}
}

// P14.1: a job whose Type is not that of a system job by one number is none.
func TestNoSystemJob(t *testing.T) {
	nodes := []api.Node{up(4, 10, 10), up(2, 10, 10)}
	fills(t, of(job(system, group(1, 1, 1)), nodes...), 0, 4, 4, 0, 2, 2)
	for _, kind := range counted() {
		fills(t, of(job(kind, group(1, 1, 1)), nodes...), 0, 0, 2)
	}
}
