package diff_test

import (
	"math"
	"testing"

	"coxswain/api"
)

// P13.1: slots that nobody holds are filled, in the order of the slots; who is not over holds, to Stop, of another Version or on a node that is Drain too.
func TestFillInTheOrderOfSlots(t *testing.T) {
	for _, kind := range []int{service, batch, 0, 4} {
		s := of(parallel(job(kind, 3, 2), 0), at(9, 1, 0, 2), at(4, 0, 1, 2))
		is(t, s, nil, fill(0, 0, 0, 2, 1, 1))
		s.Allocs = append(s.Allocs, toStop(at(3, 0, 2, 2)), toStop(in(allocNew, at(2, 0, 0, 1))))
		is(t, s, nil, fill(1, 1))
		s.Allocs = append(s.Allocs, on(3, at(1, 1, 1, 2)))
		is(t, with(s, drained(3)), ids(1), nil)
	}
	s := with(of(job(system, 1, 1), at(9, 1, 2, 2), toStop(at(4, 0, 3, 1))), up(3), up(1), up(2))
	is(t, s, nil, fill(0, 1, 0, 2, 1, 3, 1, 1))
}

// P13.1: who is over holds nothing, in whatever State, of whatever Version, to Stop or not; but of a batch job who is done.
func TestFillWhatIsOver(t *testing.T) {
	for _, kind := range kinds() {
		for _, state := range []int{allocDone, allocFailed, allocEnded, allocLost, 7, math.MaxInt} {
			for _, version := range []int{1, 2, 3} {
				a := in(state, at(5, 0, 0, version))
				for _, one := range []api.Alloc{a, toStop(a), on(3, a)} {
					s := with(of(job(kind, 1), one), up(0), drained(3))
					if kind == batch && state == allocDone && version == 2 {
						is(t, s, nil, nil)
					} else {
						is(t, s, nil, fill(0, 0))
					}
				}
			}
		}
	}
}

// P13.1: of a batch job a slot in which the job's Version is done is filled no more, whatever else was in it, and wherever that stands.
func TestFillOfBatchJobs(t *testing.T) {
	done, lost := in(allocDone, at(5, 0, 0, 2)), in(allocLost, at(6, 0, 0, 2))
	is(t, of(job(batch, 2), done), nil, fill(0, 1))
	is(t, of(job(batch, 2), lost, done), nil, fill(0, 1))
	is(t, of(job(batch, 2), done, lost, in(allocFailed, at(7, 0, 0, 1))), nil, fill(0, 1))
	is(t, of(job(batch, 2), done, in(allocDone, at(7, 0, 1, 2))), nil, nil)
	is(t, of(job(batch, 2), done, in(allocDone, at(7, 0, 1, 1))), nil, fill(0, 1))
	is(t, of(job(batch, 2), done, in(allocDone, at(7, 0, 1, 3))), nil, fill(0, 1))
	is(t, of(job(batch, 2), done, in(allocFailed, at(7, 0, 1, 2)), in(allocDone, at(8, 0, 1, 1))), nil, fill(0, 1))
	is(t, of(job(batch, 2, 2), in(allocDone, at(7, 1, 0, 2))), nil, fill(0, 0, 0, 1, 1, 1))
	is(t, of(job(batch, 2), done, at(7, 0, 0, 1)), ids(7), fill(0, 1))
	other := done
	other.Job = 2
	is(t, of(job(batch, 2), other), nil, fill(0, 0, 0, 1))
	for _, version := range farNumbers() {
		j := job(batch, 2)
		j.Version = version
		is(t, of(j, in(allocDone, at(7, 0, 1, version))), nil, fill(0, 0))
	}
}

// P13.1: of any but a batch job what is done is begun anew.
func TestFillWhatIsDoneOfOtherJobs(t *testing.T) {
	for _, kind := range []int{service, 0, 4, -1, batch + 1<<32, math.MaxInt} {
		is(t, of(job(kind, 2), in(allocDone, at(5, 0, 0, 2)), at(6, 0, 1, 2)), nil, fill(0, 0))
	}
	s := with(of(job(system, 1), in(allocDone, at(5, 0, 3, 2)), at(6, 0, 1, 2)), up(3), up(1))
	is(t, s, nil, fill(0, 3))
}
