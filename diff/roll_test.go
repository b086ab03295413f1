package diff_test

import (
	"math"
	"testing"

	"coxswain/api"
)

// oldOnes are a service job of Version 2 with one group of four, all of Version 1.
func oldOnes(most int) api.Store {
	return of(parallel(job(service, 4), most), at(9, 0, 3, 1), at(4, 0, 1, 1), at(7, 0, 0, 1), at(6, 0, 2, 1))
}

// P13.1: of slots that all stand still so many move as Parallel says, the first ones of the slots, in their order.
func TestRollAtParallel(t *testing.T) {
	all := ids(7, 4, 6, 9)
	for _, most := range []int{math.MinInt, -1, 0} {
		is(t, oldOnes(most), nil, nil)
	}
	for most := 1; most <= 4; most++ {
		is(t, oldOnes(most), all[:most], nil)
	}
	for _, most := range []int{5, 8, 1 << 32, math.MaxInt} {
		is(t, oldOnes(most), all, nil)
	}
}

// P13.1: slots that move already count, in each of the ways; at just Parallel nothing more moves, with one less one more does.
func TestRollBesideWhatMoves(t *testing.T) {
	slot := at(5, 0, 2, 1)
	moved := map[string][]api.Alloc{
		"nobody holds it":                     nil,
		"its holder is over":                  {in(allocLost, slot)},
		"its holder is to Stop":               {toStop(slot)},
		"its holder of the Version is":        {toStop(at(5, 0, 2, 2))},
		"it is new":                           {in(allocNew, at(5, 0, 2, 2))},
		"its State is none":                   {in(0, at(5, 0, 2, 2))},
		"its State is below all":              {in(math.MinInt, at(5, 0, 2, 2))},
		"a new one is to Stop":                {toStop(in(allocNew, at(5, 0, 2, 2)))},
		"the first of two is to Stop":         {toStop(slot), at(8, 0, 2, 2)},
		"the first of two is new":             {in(allocNew, at(5, 0, 2, 2)), at(8, 0, 2, 2)},
		"the first that is not over is moved": {in(allocDone, at(8, 0, 2, 2)), toStop(slot)},
	}
	for why, allocs := range moved {
		t.Run(why, func(t *testing.T) {
			empty := fill(0, 2)
			for _, a := range allocs {
				if a.State < allocDone {
					empty = nil
				}
			}
			list := append([]api.Alloc{at(1, 0, 0, 1), at(2, 0, 1, 1)}, append(allocs, at(3, 0, 3, 1))...)
			is(t, of(parallel(job(service, 4), 0), list...), nil, empty)
			is(t, of(parallel(job(service, 4), 1), list...), nil, empty)
			is(t, of(parallel(job(service, 4), 2), list...), ids(1), empty)
			is(t, of(parallel(job(service, 4), 3), list...), ids(1, 2), empty)
			is(t, of(parallel(job(service, 4), 4), list...), ids(1, 2, 3), empty)
			is(t, of(parallel(job(service, 4), 5), list...), ids(1, 2, 3), empty)
		})
	}
}

// P13.1: slots that stand still: their holders run, of the job's Version, or of another one in any State that is not over.
func TestRollBesideWhatStands(t *testing.T) {
	for _, one := range [][]api.Alloc{
		{at(5, 0, 2, 2)},
		{at(5, 0, 2, 2), toStop(at(8, 0, 2, 1))},
		{at(5, 0, 2, 2), in(allocNew, at(8, 0, 2, 2))},
		{in(allocLost, at(8, 0, 2, 2)), at(5, 0, 2, 2)},
	} {
		list := append([]api.Alloc{at(1, 0, 0, 1), at(2, 0, 1, 1)}, append(one, at(3, 0, 3, 1))...)
		is(t, of(parallel(job(service, 4), 1), list...), ids(1), nil)
		is(t, of(parallel(job(service, 4), 3), list...), ids(1, 2, 3), nil)
	}
	for _, state := range []int{allocNew, 0, -1, math.MinInt} {
		is(t, of(parallel(job(service, 2), 1), in(state, at(5, 0, 0, 1)), at(6, 0, 1, 1)), ids(5), nil)
		is(t, of(parallel(job(service, 2), 1), at(5, 0, 0, 1), in(state, at(6, 0, 1, 1))), ids(5), nil)
		is(t, of(parallel(job(service, 2), 1), at(5, 0, 0, 1), in(state, at(6, 0, 1, 3))), ids(5), nil)
	}
}

// P13.1: holders that stop for other reasons make their slots move, and stand ahead; nobody is told twice.
func TestRollBehindWhatStops(t *testing.T) {
	s := oldOnes(1)
	s.Allocs[1].Node = 3
	is(t, with(s, drained(3)), ids(4), nil)
	s.Jobs[0].Parallel = 2
	is(t, with(s, drained(3)), ids(4, 7), nil)
	s.Jobs[0].Parallel = 4
	is(t, with(s, drained(3)), ids(4, 7, 6, 9), nil)
	s.Allocs[1].Version = 2
	is(t, with(s, drained(3)), ids(4, 7, 6, 9), nil)
	s.Jobs[0].Parallel = 2
	is(t, with(s, drained(3)), ids(4, 7), nil)
	is(t, with(s, up(3)), ids(7, 6), nil)
	for i := range s.Allocs {
		s.Allocs[i].Node = 3
	}
	s.Jobs[0].Parallel = 1
	is(t, with(s, drained(3)), ids(9, 4, 7, 6), nil)
}

// P13.1: what stops in no slot makes no slot move.
func TestRollBesideWhatIsInNoSlot(t *testing.T) {
	s := oldOnes(1)
	s.Allocs = append([]api.Alloc{at(1, 0, 4, 1), at(2, 1, 0, 2), toStop(at(3, 1, 1, 1))}, s.Allocs...)
	is(t, s, ids(1, 2, 7), nil)
	s.Jobs[0].Parallel = 2
	is(t, s, ids(1, 2, 7, 4), nil)
}

// P13.1: allocations of other jobs, in slots of the same numbers, move nothing.
func TestRollBesideOtherJobs(t *testing.T) {
	s := oldOnes(1)
	other := in(allocNew, at(1, 0, 0, 2))
	other.Job = 2
	s.Allocs = append([]api.Alloc{other, toStop(other)}, s.Allocs...)
	s.Jobs = append(s.Jobs, api.Job{ID: 2, Type: service, Parallel: 1, Version: 2, Groups: []api.Group{{Count: 1}}})
	is(t, s, ids(7), nil)
}

// P13.1: Parallel counts the slots of all groups together, and goes from one to the next.
func TestRollOverGroups(t *testing.T) {
	list := []api.Alloc{at(8, 1, 1, 1), at(7, 1, 0, 1), at(6, 0, 1, 1), at(5, 0, 0, 1)}
	for most, want := range [][]int{nil, {5}, {5, 6}, {5, 6, 7}, {5, 6, 7, 8}, {5, 6, 7, 8}} {
		is(t, of(parallel(job(service, 2, 2), most), list...), want, nil)
	}
	list[0].Stop = true
	for most, want := range [][]int{nil, nil, {5}, {5, 6}, {5, 6, 7}, {5, 6, 7}} {
		is(t, of(parallel(job(service, 2, 2), most), list...), want, nil)
	}
	is(t, of(parallel(job(service, 2, 3), 1), list...), nil, fill(1, 2))
	is(t, of(parallel(job(service, 2, 3), 3), list...), ids(5), fill(1, 2))
}

// P13.1: only who holds the slot rolls, the first of two in it; the other one stays till it holds it.
func TestRollTakesTheHolder(t *testing.T) {
	s := of(parallel(job(service, 2), 4), at(5, 0, 0, 1), at(6, 0, 0, 1), at(7, 0, 1, 2), at(8, 0, 1, 1))
	is(t, s, ids(5), nil)
	s.Allocs[0].State = allocEnded
	is(t, s, ids(6), nil)
	s.Allocs[1].Version = 2
	is(t, s, nil, nil)
	s.Allocs[2].State = allocFailed
	is(t, s, ids(8), nil)
	s = with(of(parallel(job(service, 2), 1), on(3, at(5, 0, 0, 2)), at(6, 0, 0, 1), at(7, 0, 1, 1)), drained(3))
	is(t, s, ids(5), nil)
	s.Allocs[0], s.Allocs[1] = s.Allocs[1], s.Allocs[0]
	is(t, s, ids(5, 6), nil)
}

// P13.1: only service jobs roll; Version 2 is of no more worth than Version 3.
func TestRollOfServiceJobsAlone(t *testing.T) {
	s := oldOnes(1)
	for _, version := range farNumbers() {
		for i := range s.Allocs {
			s.Allocs[i].Version = version
		}
		if version == 2 {
			is(t, s, nil, nil)
		} else {
			is(t, s, ids(7), nil)
		}
	}
	for _, kind := range []int{batch, 0, 4} {
		s.Jobs[0].Type = kind
		is(t, s, ids(9, 4, 7, 6), nil)
	}
}
