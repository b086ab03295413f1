package diff_test

import (
	"math"
	"testing"

	"coxswain/api"
)

// The chapter's examples.
func TestExamples(t *testing.T) {
	is(t, example(), ids(5), nil)
	s := example()
	for _, state := range []int{allocDone, allocFailed, allocEnded, allocLost} {
		s.Allocs[0].State = state
		is(t, s, nil, fill(0, 0))
	}
	s = example()
	s.Jobs[0].Stopped = true
	is(t, s, ids(5, 6), nil)
}

// P13.1: of no such job none and none, whatever else has the number, and though allocations of it are there.
func TestNoSuchJob(t *testing.T) {
	isOf(t, api.Store{}, 0, nil, nil)
	isOf(t, api.Store{}, 1, nil, nil)
	s := with(of(job(service, 2), at(2, 2, 2, 2)), up(2))
	s.Allocs[0].Job = 2
	s.Stable = []api.Job{{ID: 2, Type: service, Groups: []api.Group{{Count: 1}}}}
	s.Evals, s.Deploys = []api.Eval{{Job: 2}}, []api.Deploy{{Job: 2}}
	for _, id := range farNumbers() {
		if id != 1 {
			isOf(t, s, id, nil, nil)
		}
	}
	is(t, s, nil, fill(0, 0, 0, 1))
}

// P13.1: of two jobs of one ID the first counts; jobs may have any ID.
func TestFirstJobOfTwo(t *testing.T) {
	first, second := job(service, 1), job(batch, 2, 2)
	second.Version = 1
	s := of(first, at(5, 0, 0, 2), at(6, 1, 0, 1))
	s.Jobs = append(s.Jobs, second)
	is(t, s, ids(6), nil)
	s.Jobs = []api.Job{{ID: 2}, second, first}
	is(t, s, ids(5), fill(0, 1, 1, 1))
	for _, id := range farNumbers() {
		far := job(service, 2)
		far.ID = id
		a := at(5, 0, 1, 2)
		a.Job = id
		s := of(far, a)
		s.Jobs = append([]api.Job{{ID: 77}}, s.Jobs...)
		isOf(t, s, id, nil, fill(0, 0))
	}
}

// P13.1: of any but a system job the indexes 0 to Count - 1, group by group; a Count below 0 is one of none, one of more than MaxCount is MaxCount.
func TestSlotsByCount(t *testing.T) {
	for _, kind := range []int{service, batch, 0, 4, -1, math.MinInt, math.MaxInt, system + 1<<32} {
		is(t, of(job(kind)), nil, nil)
		is(t, of(job(kind, 1)), nil, fill(0, 0))
		is(t, of(job(kind, 2, 3)), nil, fill(0, 0, 0, 1, 1, 0, 1, 1, 1, 2))
		is(t, of(job(kind, 0, 1)), nil, fill(1, 0))
		is(t, of(job(kind, 1, 0, 1)), nil, fill(0, 0, 2, 0))
		for _, none := range []int{0, -1, -4, -5, math.MinInt} {
			is(t, of(job(kind, none)), nil, nil)
			is(t, of(job(kind, none, 1)), nil, fill(1, 0))
		}
		is(t, of(job(kind, 3)), nil, fill(0, 0, 0, 1, 0, 2))
		for _, most := range []int{4, 5, 6, 1 << 32, 1<<32 + 1, math.MaxInt} {
			is(t, of(job(kind, most)), nil, fill(0, 0, 0, 1, 0, 2, 0, 3))
			is(t, of(job(kind, most, 1)), nil, fill(0, 0, 0, 1, 0, 2, 0, 3, 1, 0))
		}
	}
}

// P13.1: of any but a system job nodes make no slots, and take none.
func TestSlotsByCountWithoutNodes(t *testing.T) {
	for _, kind := range []int{service, batch, 0, 4} {
		is(t, with(of(job(kind, 1)), up(1), up(2), up(3)), nil, fill(0, 0))
		is(t, with(of(job(kind, 2)), gone(0), drained(1)), nil, fill(0, 0, 0, 1))
	}
}

// P13.1: of a system job the nodes that are Up and not Drain, as they stand, each once, for each group; its Count is not looked at.
func TestSlotsByNode(t *testing.T) {
	is(t, of(job(system, 1)), nil, nil)
	is(t, with(of(job(system, 1)), up(3), up(1), up(2)), nil, fill(0, 3, 0, 1, 0, 2))
	is(t, with(of(job(system, 1)), gone(4), up(3), drained(1), goneDrained(5), up(2)), nil, fill(0, 3, 0, 2))
	is(t, with(of(job(system, 1)), gone(1), drained(2), goneDrained(3)), nil, nil)
	is(t, with(of(job(system, 1, 1)), up(2), gone(3), up(1)), nil, fill(0, 2, 0, 1, 1, 2, 1, 1))
	is(t, with(of(job(system)), up(2)), nil, nil)
	for _, count := range []int{math.MinInt, -1, 0, 2, 4, 5, math.MaxInt} {
		is(t, with(of(job(system, count, 1)), up(2), up(1)), nil, fill(0, 2, 0, 1, 1, 2, 1, 1))
	}
	many := with(of(job(system, 1)), up(1), up(2), up(3), up(4), up(5), up(6))
	is(t, many, nil, fill(0, 1, 0, 2, 0, 3, 0, 4, 0, 5, 0, 6))
	for _, id := range farNumbers() {
		is(t, with(of(job(system, 1)), up(77), up(id)), nil, fill(0, 77, 0, id))
	}
}

// P13.1: an ID is told once, where the first that is Up and not Drain stands, if others of the ID are not.
func TestSlotsByNodesOfOneID(t *testing.T) {
	is(t, with(of(job(system, 1)), up(2), up(1), up(2)), nil, fill(0, 2, 0, 1))
	is(t, with(of(job(system, 1, 1)), up(2), up(2), up(2)), nil, fill(0, 2, 1, 2))
	for _, shut := range []api.Node{gone(2), drained(2), goneDrained(2)} {
		is(t, with(of(job(system, 1)), shut, up(1), up(2)), nil, fill(0, 1, 0, 2))
		is(t, with(of(job(system, 1)), up(2), up(1), shut), nil, fill(0, 2, 0, 1))
		is(t, with(of(job(system, 1)), shut, up(1), shut), nil, fill(0, 1))
	}
}

// P13.1: a job that is Stopped has no slots: all that is not over and not to Stop stops, and nothing is filled.
func TestStopped(t *testing.T) {
	for _, kind := range []int{service, batch, system, 0, 4} {
		j := job(kind, 4, 4)
		j.Stopped = true
		for _, most := range []int{0, 1, 8} {
			s := of(parallel(j, most), at(9, 0, 3, 2), at(8, 0, 2, 1), toStop(at(7, 0, 0, 2)), in(allocLost, at(6, 0, 1, 2)), in(allocNew, on(3, at(5, 1, 3, 2))), at(4, 7, 7, 2))
			is(t, with(s, up(3), drained(7), up(2)), ids(9, 8, 5, 4), nil)
			is(t, s, ids(9, 8, 5, 4), nil)
		}
		is(t, with(of(j), up(1)), nil, nil)
	}
}

// P13.1: a slot is told by both, its group and its index.
func TestSlotsAreTwoNumbers(t *testing.T) {
	is(t, of(job(batch, 2, 2), at(5, 1, 0, 2), at(6, 0, 1, 2)), nil, fill(0, 0, 1, 1))
	is(t, of(job(batch, 3, 3), at(5, 1, 2, 2)), nil, fill(0, 0, 0, 1, 0, 2, 1, 0, 1, 1))
	s := with(of(job(system, 1, 1), at(5, 0, 1, 2), at(6, 1, 0, 2)), up(0), up(1))
	is(t, s, nil, fill(0, 0, 1, 1))
}
