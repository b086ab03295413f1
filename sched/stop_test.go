package sched_test

import (
	"slices"
	"testing"

	"coxswain/api"
	"coxswain/diff"
	"coxswain/sched"
)

// P14.1: what is to stop, in the order in which diff.Diff tells it, which is not that of the IDs.
func TestStopsInTheirOrder(t *testing.T) {
	s := of(job(batch, group(3, 1, 1)), up(5, 0, 0))
	s = with(s, at(9, 0, 2, 1), at(4, 0, 0, 3), at(7, 0, 1, 1))
	is(t, s, ids(9, 4, 7), nil, false)
	s.Jobs[0].Type, s.Jobs[0].Parallel = service, 2
	is(t, s, ids(4, 7), nil, false)
	s.Jobs[0].Parallel = 3
	is(t, s, ids(4, 7, 9), nil, false)
	s.Allocs = append(s.Allocs, at(3, 1, 0, 2), at(2, 0, 3, 2))
	is(t, s, ids(3, 2, 4, 7, 9), nil, false)
	s.Jobs[0].Stopped = true
	is(t, s, ids(9, 4, 7, 3, 2), nil, false)
	s.Jobs[0].Type = system
	is(t, s, ids(9, 4, 7, 3, 2), nil, false)
}

// P14.1: what is to Stop already, and what is over, is not told; of two allocations of one ID both are.
func TestStopsOnce(t *testing.T) {
	s := of(job(batch, group(2, 1, 1)), up(5, 0, 0))
	s = with(s, toStop(at(9, 0, 0, 1)), at(4, 0, 1, 1), in(allocEnded, at(3, 0, 1, 1)), at(4, 1, 1, 2))
	is(t, s, ids(4, 4), nil, false)
}

// P14.1: in one plan some stop, some are filled, and some find no node.
func TestStopsBesidePlaces(t *testing.T) {
	s := of(job(batch, group(3, 10, 1), group(1, 99, 1)), up(1, 25, 9), drained(2, 99, 99))
	s = with(s, on(1, 10, 1, at(6, 0, 0, 1)), on(2, 0, 0, at(5, 0, 1, 2)))
	is(t, s, ids(6, 5), fill(s, 0, 2, 1), true)
	s.Allocs[0].State = allocLost
	is(t, s, ids(5), fill(s, 0, 0, 1, 0, 2, 1), true)
	s.Jobs[0].Groups[1].Ask = res(5, 7)
	is(t, s, ids(5), fill(s, 0, 0, 1, 0, 2, 1, 1, 0, 1), false)
}

// P14.1: what is to stop has its room till it is over; a plan that only stops is not Blocked.
func TestWhatStopsHasItsRoom(t *testing.T) {
	s := with(of(job(service, group(2, 10, 1)), up(1, 15, 9)), on(1, 10, 1, at(6, 0, 0, 1)))
	s.Jobs[0].Parallel = 2
	is(t, s, ids(6), nil, true)
	s.Allocs[0].Stop = true
	is(t, s, nil, nil, true)
	s.Allocs[0].State = allocEnded
	is(t, s, nil, fill(s, 0, 0, 1), true)
	s.Nodes[0].Cap = res(20, 2)
	is(t, s, nil, fill(s, 0, 0, 1, 0, 1, 1), false)
	s = with(of(job(service, group(1, 10, 1)), up(1, 10, 1)), on(1, 10, 1, at(6, 0, 0, 1)))
	is(t, s, ids(6), nil, false)
}

// P14.1: of a service that changes as many stop as diff.Diff tells, one behind the other, and each slot is filled when it is free.
func TestRollsOn(t *testing.T) {
	s := with(of(job(service, group(3, 10, 1)), up(1, 100, 100)), at(1, 0, 0, 1), at(2, 0, 1, 1), at(3, 0, 2, 1))
	for index := range 3 {
		is(t, s, ids(index+1), nil, false)
		s.Allocs[index].Stop = true
		is(t, s, nil, nil, false)
		s.Allocs[index].State = allocEnded
		is(t, s, nil, fill(s, 0, index, 1), false)
		s.Allocs = append(s.Allocs, in(allocNew, at(4+index, 0, index, 2)))
		is(t, s, nil, nil, false)
		s.Allocs[3+index].State = allocRunning
	}
	is(t, s, nil, nil, false)
}

// P14.1: Stops are a list of their own, not the one that another plan has.
func TestStopsAreNew(t *testing.T) {
	s := with(of(job(batch, group(2, 1, 1))), at(9, 0, 0, 1), at(4, 0, 1, 1))
	first, second := sched.Plan(s, 1), sched.Plan(s, 1)
	first.Stops[0], first.Stops[1] = -7, -8
	told, _ := diff.Diff(s, 1)
	if !slices.Equal(second.Stops, told) || !slices.Equal(told, []int{9, 4}) {
		t.Errorf("%v, and %v is told", second.Stops, told)
	}
	plan(t, s, 1, api.Plan{Job: 1, Version: 2, Index: 41, Stops: ids(9, 4)})
}
