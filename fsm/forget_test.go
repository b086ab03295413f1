package fsm_test

import (
	"slices"
	"testing"

	"coxswain/api"
)

// gone takes allocations out of a store.
func gone(s *api.Store, ids ...int) {
	s.Allocs = slices.DeleteFunc(s.Allocs, func(a api.Alloc) bool { return slices.Contains(ids, a.ID) })
}

// worn is a run in which the service 1 has filled MaxAllocs with allocations that failed; the batch job 2 has none yet.
func worn(t *testing.T) *run {
	r := begin(t)
	r.ok(register(node(1, 1)), register(node(2, 1)), submit(job(1, service, 4)), submit(job(2, batch, 4, 4)))
	for id := 1; id <= maxAllocs; id += 4 {
		r.ok(r.plan(1, at(0, 0, 1), at(0, 1, 1), at(0, 2, 1), at(0, 3, 1))).ok(r.says(1, failed(id), failed(id+1), failed(id+2), failed(id+3)))
	}
	if len(r.s.Allocs) != maxAllocs || r.s.Next != maxAllocs+1 {
		t.Fatalf("%d allocations", len(r.s.Allocs))
	}
	return r
}

// P11.3: as many as need be are forgotten, those with the least ID first; IDs go on.
func TestForgetTheEldest(t *testing.T) {
	r := worn(t)
	c := r.plan(1, at(0, 0, 1))
	r.planned(c, ok, c.Plan.Places, func(s *api.Store) { gone(s, 1) })
	c = r.plan(2, at(0, 0, 1), at(0, 1, 1), at(0, 2, 1), at(1, 0, 2), at(1, 1, 2))
	r.planned(c, ok, c.Plan.Places, func(s *api.Store) { gone(s, 2, 3, 4, 5, 6) })
	if r.s.Next != maxAllocs+7 || len(r.s.Allocs) != maxAllocs {
		t.Errorf("Next %d, %d allocations", r.s.Next, len(r.s.Allocs))
	}
}

// P11.3: nothing is forgotten as long as there are no more than MaxAllocs.
func TestForgetNothingTooSoon(t *testing.T) {
	r := begin(t)
	r.ok(register(node(1, 1)), submit(job(1, service, 4)))
	for id := 1; id < maxAllocs; id += 3 {
		c := r.plan(1, at(0, 0, 1), at(0, 1, 1), at(0, 2, 1))
		r.planned(c, ok, c.Plan.Places, nil)
		r.ok(r.says(1, failed(id), done(id+1), failed(id+2)))
	}
	c := r.plan(1, at(0, 0, 1))
	r.planned(c, ok, c.Plan.Places, nil)
	r.ok(submit(job(1, service, 4)))
	c = r.plan(1, at(0, 1, 1))
	r.planned(c, ok, c.Plan.Places, func(s *api.Store) { gone(s, 1) })
}

// P11.3: Places that can't be done forget nothing, also if those of another node do.
func TestForgetNothingForNothing(t *testing.T) {
	r := worn(t)
	r.planned(r.plan(2, at(0, 0, 1), at(0, 0, 1)), errPart, nil, nil)
	r.planned(r.plan(2, at(0, 0, 1), at(0, 4, 1)), errPart, nil, nil)
	c := r.plan(2, at(0, 0, 1), at(0, 4, 1), at(0, 1, 2))
	r.planned(c, errPart, c.Plan.Places[2:], func(s *api.Store) { gone(s, 1) })
	c = r.plan(2, at(0, 0, 1), at(0, 2, 2), at(0, 1, 2))
	r.planned(c, errPart, c.Plan.Places[:1], func(s *api.Store) { gone(s, 2) })
}

// P11.3: what is not over is never forgotten, nor what is done of a batch job that is there, of its Version; that may go with the next Version, or if it is over otherwise.
func TestForgetNotWhatCounts(t *testing.T) {
	r := begin(t)
	r.ok(register(node(1, 1)), submit(job(1, service, 4)), submit(job(2, batch, 4, 4)), submit(job(3, batch, 4)))
	r.ok(r.plan(2, at(0, 0, 1), at(0, 1, 1), at(0, 2, 1), at(0, 3, 1))).ok(r.says(1, done(1), failed(2), done(3))) // 4 is held
	r.ok(r.plan(3, at(0, 0, 1))).ok(r.says(1, done(5)))
	for id := 6; id <= maxAllocs-2; id += 3 {
		r.ok(r.plan(1, at(0, 0, 1), at(0, 1, 1), at(0, 2, 1))).ok(r.says(1, done(id), done(id+1), failed(id+2)))
	}
	r.ok(r.plan(1, at(0, 0, 1), at(0, 1, 1)))
	if r.s.Next != maxAllocs+1 || len(r.s.Allocs) != maxAllocs {
		t.Fatalf("Next %d", r.s.Next)
	}
	r.ok(submit(job(1, service, 4)))
	c := r.plan(1, at(0, 2, 1), at(0, 3, 1))
	r.planned(c, ok, c.Plan.Places, func(s *api.Store) { gone(s, 2, 6) })
	r.ok(submit(job(2, batch, 4, 4)))
	c = r.plan(2, at(0, 0, 1), at(1, 0, 1))
	r.planned(c, ok, c.Plan.Places, func(s *api.Store) { gone(s, 1, 3) })
	c = r.plan(3, at(0, 1, 1), at(0, 2, 1))
	r.planned(c, ok, c.Plan.Places, func(s *api.Store) { gone(s, 7, 8) })
	r.ok(register(node(2, 1)), cancel(3), submit(job(3, batch, 4)))
	c = r.plan(3, at(0, 0, 2), at(0, 3, 2))
	r.planned(c, ok, c.Plan.Places, func(s *api.Store) { gone(s, 5, 9) })
}

// P11.3: also what is done of a Stopped batch job stays, wherever the job stands among the others.
func TestForgetNotOfAStoppedBatchJob(t *testing.T) {
	for _, id := range []int{1, 3, 5} {
		r := begin(t)
		r.ok(register(node(1, 1)), submit(job(2, service, 4)), submit(job(4, service, 1)), submit(job(id, batch, 1))).ok(r.plan(id, at(0, 0, 1))).ok(r.says(1, done(1)), cancel(id))
		for alloc := 2; alloc <= maxAllocs; alloc++ {
			r.ok(r.plan(2, at(0, 0, 1))).ok(r.says(1, failed(alloc)))
		}
		c := r.plan(2, at(0, 0, 1))
		r.planned(c, ok, c.Plan.Places, func(s *api.Store) { gone(s, 2) })
		r.ok(submit(job(id, batch, 1)))
		c = r.plan(id, at(0, 0, 1))
		r.planned(c, ok, c.Plan.Places, func(s *api.Store) { gone(s, 1) })
	}
}

// crowded is a run whose store has, by hand, so many allocations that hold slots of a job that is not there, on a node that is not there, and behind them so many that are over.
func crowded(t *testing.T, held, over int) *run {
	r := begin(t)
	r.ok(register(node(1, 1)), register(node(2, 1)), submit(job(1, service, 4)), submit(job(2, batch, 4)))
	r.byHand(func(s *api.Store) {
		for id := 1; id <= held+over; id++ {
			a := api.Alloc{ID: id, Job: 9, Version: 1, Index: id, Node: 3, State: allocRunning}
			if id > held {
				a.State = allocLost
			}
			s.Allocs = append(s.Allocs, a)
		}
		s.Next = held + over + 1
	})
	return r
}

// P11.3: if too few may be forgotten the node's Places are not done, and none is forgotten.
func TestForgetWithoutEnough(t *testing.T) {
	for _, x := range []struct {
		held, over, places int
		done               bool
	}{
		{63, 0, 1, true}, {63, 1, 1, true}, {64, 0, 1, false}, {62, 2, 2, true}, {63, 1, 2, false}, {62, 1, 3, false},
		{60, 4, 4, true}, {61, 3, 4, false}, {61, 2, 4, false}, {60, 0, 4, true}, {61, 0, 4, false}, {0, 64, 4, true},
	} {
		r := crowded(t, x.held, x.over)
		c := r.plan(1, []api.Alloc{at(0, 0, 1), at(0, 1, 1), at(0, 2, 1), at(0, 3, 1)}[:x.places]...)
		if !x.done {
			r.planned(c, errPart, nil, nil)
			continue
		}
		r.planned(c, ok, c.Plan.Places, func(s *api.Store) {
			for id := x.held + 1; len(s.Allocs) > maxAllocs; id++ {
				gone(s, id)
			}
		})
	}
}

// P11.3: node by node: what the first one's Places take is not there for the next one's.
func TestForgetNodeByNode(t *testing.T) {
	r := crowded(t, 62, 2)
	c := r.plan(1, at(0, 0, 2), at(0, 1, 1), at(0, 2, 2))
	r.planned(c, errPart, c.Plan.Places[1:2], func(s *api.Store) { gone(s, 63) })
	c = r.plan(1, at(0, 0, 2), at(0, 2, 1))
	r.planned(c, errPart, c.Plan.Places[1:], func(s *api.Store) { gone(s, 64) })
	r.planned(r.plan(1, at(0, 0, 2)), errPart, nil, nil)
}

// P11.3: of those by hand that are done only those of a batch job that is there, and of its Version, stay.
func TestForgetWhatIsDone(t *testing.T) {
	for _, x := range []struct {
		job, version, state int
		stays               bool
	}{
		{2, 1, allocDone, true}, {2, 0, allocDone, false}, {2, 2, allocDone, false}, {1, 1, allocDone, false}, {3, 1, allocDone, false}, {9, 1, allocDone, false},
		{2, 1, allocFailed, false}, {2, 1, allocEnded, false}, {2, 1, allocLost, false}, {9, 1, allocLost, false}, {2, 1, allocRunning, true}, {9, 1, allocNew, true},
	} {
		r := crowded(t, 63, 1)
		r.ok(submit(job(3, system, 1)))
		r.byHand(func(s *api.Store) {
			s.Allocs[63].Job, s.Allocs[63].Version, s.Allocs[63].State = x.job, x.version, x.state
		})
		c := r.plan(1, at(0, 0, 1))
		if x.stays {
			r.planned(c, errPart, nil, nil)
		} else {
			r.planned(c, ok, c.Plan.Places, func(s *api.Store) { gone(s, 64) })
		}
	}
}

// P11.3: of more than MaxAllocs, as no entries make them, all that are too many go; without Places none does.
func TestForgetMoreThanThePlaces(t *testing.T) {
	r := crowded(t, 10, 60)
	r.planned(r.plan(2), ok, nil, nil)
	c := r.plan(1, at(0, 0, 1), at(0, 1, 1))
	r.planned(c, ok, c.Plan.Places, func(s *api.Store) {
		for id := 11; len(s.Allocs) > maxAllocs; id++ {
			gone(s, id)
		}
	})
}
