package diff_test

import (
	"math"
	"testing"

	"coxswain/api"
)

// kinds are the types of jobs, and some that are none.
func kinds() []int { return []int{service, batch, system, 0, 4, -1} }

// P13.1: allocations of other jobs are neither stopped nor in a slot, whatever of theirs has the job's number.
func TestStopsOfThisJobAlone(t *testing.T) {
	for _, kind := range kinds() {
		s := with(of(job(kind, 1)), up(0))
		for _, other := range []int{0, 2, -1, 1 + 1<<32, math.MinInt, math.MaxInt} {
			a := api.Alloc{ID: 1, Job: other, Version: 1, Group: 0, Index: 0, Node: 1, Epoch: 1, State: allocRunning}
			b := a
			b.Group, b.Index = 1, 1
			s.Allocs = append(s.Allocs, a, b, in(allocDone, a))
		}
		is(t, s, nil, fill(0, 0))
		s.Allocs = append(s.Allocs, at(5, 0, 0, 2), at(6, 9, 9, 2))
		is(t, s, ids(6), nil)
	}
}

// P13.1: what is over is not stopped: in no slot, on a node that is Drain, or of another Version.
func TestStopsNothingThatIsOver(t *testing.T) {
	for state, isOver := range map[int]bool{
		allocNew: false, allocRunning: false, allocDone: true, allocFailed: true, allocEnded: true, allocLost: true,
		0: false, -1: false, 7: true, math.MinInt: false, math.MaxInt: true,
	} {
		for _, kind := range kinds() {
			s := with(of(job(kind, 1), in(state, at(5, 3, 3, 2)), in(state, on(4, at(6, 0, 0, 2))), in(state, at(7, 3, 3, 1))), up(0), drained(4))
			switch {
			case !isOver:
				is(t, s, ids(5, 6, 7), nil)
			case kind == batch && state == allocDone:
				is(t, s, nil, nil)
			default:
				is(t, s, nil, fill(0, 0))
			}
		}
	}
}

// P13.1: what is to Stop already is not told again; it holds its slot all the same.
func TestStopsNothingTwice(t *testing.T) {
	for _, kind := range kinds() {
		for _, most := range []int{0, 1, 8} {
			s := with(of(parallel(job(kind, 1), most), toStop(at(5, 3, 3, 2)), toStop(on(4, at(6, 0, 0, 2))), toStop(at(7, 0, 0, 1))), up(0), drained(4))
			is(t, s, nil, nil)
			s.Allocs[0].Stop = false
			is(t, s, ids(5), nil)
		}
	}
}

// P13.1: what stands in no slot of the job stops: of a group or an index that it has not.
func TestStopsWhatIsInNoSlot(t *testing.T) {
	for _, kind := range []int{service, batch, 0, 4} {
		s := of(job(kind, 2, 1), at(5, 0, 0, 2), at(6, 0, 1, 2), at(7, 1, 0, 2))
		is(t, s, nil, nil)
		for _, wrong := range [][2]int{
			{0, 2}, {0, -1}, {1, 1}, {1, -1}, {2, 0}, {-1, 0}, {2, 2}, {0, 1 << 32}, {1 << 32, 0}, {1<<32 + 1, 0},
			{0, math.MinInt}, {0, math.MaxInt}, {math.MinInt, 0}, {math.MaxInt, 0}, {math.MaxInt, math.MinInt},
		} {
			more := s
			more.Allocs = append([]api.Alloc{at(8, wrong[0], wrong[1], 2)}, s.Allocs...)
			is(t, more, ids(8), nil)
		}
	}
	for _, count := range []int{4, 5, math.MaxInt} {
		s := of(job(batch, count), at(1, 0, 0, 2), at(2, 0, 1, 2), at(3, 0, 2, 2), at(4, 0, 3, 2), at(5, 0, 4, 2))
		is(t, s, ids(5), nil)
	}
	for _, count := range []int{0, -1, math.MinInt} {
		is(t, of(job(service, count), at(1, 0, 0, 2), at(2, 0, -1, 2)), ids(1, 2), nil)
	}
	is(t, of(job(service), at(1, 0, 0, 2)), ids(1), nil)
}

// P13.1: of a system job a slot is told by the Index, not by the Node on which it is; without its node Up and not Drain it is none.
func TestStopsSystemTasksWithoutNode(t *testing.T) {
	s := with(of(job(system, 1), on(1, at(5, 0, 1, 2)), on(2, at(6, 0, 2, 2)), on(3, at(7, 0, 3, 2)), on(4, at(8, 0, 4, 2))), up(1), gone(2), drained(3))
	is(t, s, ids(6, 7, 8), nil)
	s.Allocs = append(s.Allocs, on(1, at(9, 1, 1, 2)), on(1, at(10, -1, 1, 2)))
	is(t, s, ids(6, 7, 8, 9, 10), nil)
	is(t, with(of(job(system, 1), on(2, at(5, 0, 1, 2)), on(1, at(6, 0, 0, 2))), up(1), up(2)), ids(6), fill(0, 2))
	is(t, of(job(system, 1), on(1, at(5, 0, 1, 2))), ids(5), nil)
}

// P13.1: what stands on a node that is there and Drain stops, whether that is Up; not on one that is not there, nor on one that is only not Up.
func TestStopsWhatIsOnDrain(t *testing.T) {
	for _, kind := range []int{service, batch, 0, 4} {
		s := of(job(kind, 4), on(1, at(5, 0, 0, 2)), on(2, at(6, 0, 1, 2)), on(3, at(7, 0, 2, 2)), on(4, at(8, 0, 3, 2)))
		is(t, s, nil, nil)
		is(t, with(s, up(1), gone(2)), nil, nil)
		is(t, with(s, up(1), gone(2), drained(3)), ids(7), nil)
		is(t, with(s, up(1), gone(2), drained(3), goneDrained(4)), ids(7, 8), nil)
		is(t, with(s, drained(4), drained(1)), ids(5, 8), nil)
		is(t, with(s, drained(5), drained(6), drained(0)), nil, nil)
	}
	for _, id := range farNumbers() {
		is(t, with(of(job(batch, 1), on(id, at(5, 0, 0, 2))), up(77), drained(id)), ids(5), nil)
		is(t, with(of(job(batch, 1), on(id, at(5, 0, 0, 2))), drained(77), up(id)), nil, nil)
	}
	s := with(of(job(system, 1), on(2, at(5, 0, 1, 2)), on(1, at(6, 0, 3, 2))), up(1), drained(2), up(3))
	is(t, s, ids(5), nil)
}

// P13.1: of two nodes of one ID the first tells whether it is Drain.
func TestStopsByTheFirstNodeOfTwo(t *testing.T) {
	s := of(job(batch, 1), on(1, at(5, 0, 0, 2)))
	is(t, with(s, up(1), drained(1)), nil, nil)
	is(t, with(s, gone(1), goneDrained(1)), nil, nil)
	is(t, with(s, drained(1), up(1)), ids(5), nil)
	is(t, with(s, drained(2), goneDrained(1), gone(1)), ids(5), nil)
}

// P13.1: what is of another Version, a lesser or a greater one, stops at once, if the job is no service job.
func TestStopsOtherVersions(t *testing.T) {
	for _, kind := range []int{batch, 0, 4, -1, math.MinInt, math.MaxInt, service + 1<<32} {
		for _, most := range []int{math.MinInt, 0, 1, 2, 8, math.MaxInt} {
			s := of(parallel(job(kind, 4), most), at(5, 0, 0, 1), at(6, 0, 1, 2), in(allocNew, at(7, 0, 2, 3)), at(8, 0, 3, 2))
			is(t, s, ids(5, 7), nil)
		}
	}
	s := with(of(job(system, 1), at(5, 0, 1, 1), at(6, 0, 2, 2), in(allocNew, at(7, 0, 3, 3))), up(1), up(2), up(3))
	is(t, s, ids(5, 7), nil)
	for _, version := range farNumbers() {
		if version != 2 {
			is(t, of(job(batch, 2), at(5, 0, 0, version), at(6, 0, 1, 2)), ids(5), nil)
			is(t, of(parallel(job(service, 2), 0), at(5, 0, 0, version), at(6, 0, 1, 2)), nil, nil)
		}
		j := job(batch, 2)
		j.Version = version
		is(t, of(j, at(5, 0, 0, version), at(6, 0, 1, version)), nil, nil)
	}
}

// P13.1: the order is that of Allocs, neither that of IDs nor of slots, nor of what is wrong with them; each is told once, whatever else is wrong with it.
func TestStopsInTheOrderOfAllocs(t *testing.T) {
	s := with(of(job(batch, 3), at(9, 0, 2, 1), on(3, at(4, 0, 1, 2)), at(7, 5, 0, 2), at(1, 0, 0, 1), on(3, at(8, 5, 5, 1)), at(2, 0, 0, 2)), drained(3))
	is(t, s, ids(9, 4, 7, 1, 8), nil)
	s = with(of(parallel(job(service, 3), 0), on(3, at(9, 0, 2, 1)), at(4, 5, 1, 2), on(3, at(7, 0, 0, 2)), at(1, -1, 0, 1)), drained(3))
	is(t, s, ids(9, 4, 7, 1), fill(0, 1))
}

// P13.1: those that have one slot, or one ID, are told one by one.
func TestStopsEachOfTwo(t *testing.T) {
	s := of(job(batch, 1), at(5, 0, 0, 2), at(6, 0, 0, 2), at(7, 0, 0, 1))
	is(t, s, ids(7), nil)
	s.Jobs[0].Stopped = true
	is(t, s, ids(5, 6, 7), nil)
	is(t, of(job(batch, 1), at(5, 1, 0, 2), at(5, 1, 0, 2), at(5, 0, 0, 2)), ids(5, 5), nil)
	is(t, of(parallel(job(service, 1), 2), at(5, 1, 0, 2), at(5, 0, 0, 1)), ids(5, 5), nil)
	for _, id := range farNumbers() {
		is(t, of(job(batch, 1), at(id, 1, 0, 2), at(7, 0, 0, 2)), ids(id), nil)
	}
}
