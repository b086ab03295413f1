package sched_test

import (
	"math"
	"testing"

	"coxswain/api"
)

// P14.1: no node for the first, a middle or the last slot, or for several: those are passed over, all others are filled, and the plan is Blocked.
func TestNoNodeForOne(t *testing.T) {
	small, big := group(1, 10, 10), group(1, 101, 10)
	for _, kind := range counted() {
		for which := range 16 {
			s := of(job(kind), up(1, 100, 100), up(2, 5, 500))
			var places []int
			for i := range 4 {
				if which>>i&1 == 0 {
					s.Jobs[0].Groups = append(s.Jobs[0].Groups, small)
					places = append(places, i, 0, 1)
				} else {
					s.Jobs[0].Groups = append(s.Jobs[0].Groups, big)
				}
			}
			is(t, s, nil, fill(s, places...), which > 0)
		}
	}
}

// P14.1: of a system job, too: no room on the first, a middle or the last node, or on several.
func TestNoRoomOnOne(t *testing.T) {
	for which := range 16 {
		s := of(job(system, group(1, 10, 10)))
		var places []int
		for i := range 4 {
			n := up(8-i, 10, 10)
			if which>>i&1 == 0 {
				places = append(places, 0, n.ID, n.ID)
			} else {
				n.Cap.Mem = 9
			}
			s.Nodes = append(s.Nodes, n)
		}
		is(t, s, nil, fill(s, places...), which > 0)
	}
}

// P14.1: a task that is less is placed behind one that found no node, on what that one left.
func TestLessIsPlacedBehind(t *testing.T) {
	for _, kind := range counted() {
		s := of(job(kind, group(2, 30, 1), group(4, 10, 1)), up(1, 50, 50))
		blocks(t, s, 0, 0, 1, 1, 0, 1, 1, 1, 1)
		s.Jobs[0].Groups[0].Count = 1
		s.Jobs[0].Groups[1].Count = 2
		fills(t, s, 0, 0, 1, 1, 0, 1, 1, 1, 1)
	}
}

// P14.1: without nodes, and with none that takes tasks, all slots are passed over; a system job has no slot then, and is not Blocked.
func TestNoNodeAtAll(t *testing.T) {
	for _, nodes := range [][]api.Node{nil, {}, {gone(1, 99, 99)}, {drained(1, 99, 99)}, {gone(1, 99, 99), drained(2, 99, 99)}} {
		for _, kind := range counted() {
			blocks(t, of(job(kind, group(1, 0, 0)), nodes...))
			blocks(t, of(job(kind, group(4, 0, 0), group(1, 5, 5)), nodes...))
			fills(t, of(job(kind, group(0, 0, 0)), nodes...))
		}
		fills(t, of(job(system, group(1, 0, 0), group(1, 5, 5)), nodes...))
	}
}

// P14.1: what stops, or is held, does not make a plan Blocked; one slot without a node does.
func TestBlockedBySlotsAlone(t *testing.T) {
	s := with(of(job(service, group(2, 10, 10))), at(5, 0, 0, 1), at(6, 0, 1, 2))
	is(t, s, ids(5), nil, false)
	s.Evals[0].State = evalBlocked
	is(t, s, ids(5), nil, false)
	s.Allocs[1].State = allocLost
	is(t, s, nil, nil, true)
	s.Jobs[0].Parallel = 2
	is(t, s, ids(5), nil, true)
	s.Jobs[0].Stopped = true
	is(t, s, ids(5), nil, false)
}

// P14.1, R6: demands and capacities that can't be added find no node, and do not hinder others.
func TestDemandsThatCannotBeAdded(t *testing.T) {
	for _, kind := range counted() {
		for _, wrong := range []int{-1, math.MinInt, top + 1, math.MaxInt} {
			s := of(job(kind, group(1, 1, 1), group(2, wrong, 0), group(1, 0, wrong), group(1, 2, 2)), up(1, math.MaxInt, math.MaxInt), up(2, -1, math.MinInt))
			blocks(t, s, 0, 0, 1, 3, 0, 1)
			s.Jobs[0].Type = system
			blocks(t, s, 0, 1, 1, 3, 1, 1)
		}
		s := of(job(kind, group(2, top, 1), group(1, 0, 1)), up(1, math.MaxInt, math.MaxInt))
		blocks(t, s, 0, 0, 1, 1, 0, 1)
		s.Nodes = append(s.Nodes, up(2, top, 1))
		fills(t, s, 0, 0, 2, 0, 1, 1, 1, 0, 1)
		blocks(t, with(s, other(2, -1, 0)), 0, 0, 1, 1, 0, 1)
	}
}
