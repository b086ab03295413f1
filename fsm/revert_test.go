package fsm_test

import (
	"testing"

	"coxswain/api"
)

// stable is a run in which the service 1 is stable in its Version 1, with a task that runs on the node 1, and the service 2 has only begun.
func stable(t *testing.T) *run {
	r := begin(t)
	r.ok(register(node(1, 1)), submit(job(1, service, 1)), submit(job(2, service, 1))).ok(r.plan(1, at(0, 0, 1))).ok(r.says(1, running(1))).ok(r.plan(1))
	if len(r.s.Stable) != 1 || r.deploy(1).State != deployDone {
		t.Fatalf("%+v", r.s)
	}
	return r
}

// P11.3: CmdRevert: ErrNoJob; ErrOld, unless the job has the Version, and its Deploy is running, and of it.
func TestRevertRefused(t *testing.T) {
	r := stable(t)
	r.ok(submit(job(3, batch, 1)), submit(job(4, system, 1)), submit(job(5, service, 1)), cancel(5))
	for _, id := range append([]int{6, 7, 100}, farNumbers()...) {
		if id < 1 || id > 5 {
			r.refuses(revert(id, 1), errNoJob)
			r.refuses(revert(id, id), errNoJob)
		}
	}
	for _, id := range []int{1, 3, 4, 5} {
		for _, version := range append([]int{3, 4}, farNumbers()...) {
			r.refuses(revert(id, version), errOld)
		}
	}
	for _, version := range append([]int{3, 4}, farNumbers()...) {
		if version != 1 {
			r.refuses(revert(2, version), errOld)
		}
	}
	r.ok(submit(job(1, service, 2)))
	r.refuses(revert(1, 1), errOld)
	r.refuses(revert(1, 3), errOld)
	for _, version := range []int{1, 3, 0} {
		r.byHand(func(s *api.Store) { deployIn(t, s, 1).Version = version })
		r.refuses(revert(1, 2), errOld)
		r.refuses(revert(1, version), errOld)
	}
	r.byHand(func(s *api.Store) { s.Deploys = s.Deploys[1:] })
	r.refuses(revert(1, 2), errOld)
}

// P11.3: without a Stable the Deploy fails, with its Index, and the job is to be evaluated; it is not reverted again.
func TestRevertWithoutStable(t *testing.T) {
	r := stable(t)
	r.ok(r.plan(2))
	r.does(revert(2, 1), value(1), func(s *api.Store) {
		deployIn(t, s, 2).State = deployFailed
		r.pending(s, 2)
	})
	r.refuses(revert(2, 1), errOld)
}

// P11.3: with a Stable that asks for the same, too, whatever its Version and Stopped are.
func TestRevertToTheSame(t *testing.T) {
	r := stable(t)
	r.ok(submit(job(1, service, 1))).ok(r.plan(1))
	r.does(revert(1, 2), value(2), func(s *api.Store) {
		s.Deploys[0].State = deployFailed
		r.pending(s, 1)
	})
	r.refuses(revert(1, 2), errOld)
	r.ok(submit(job(1, service, 1)))
	r.byHand(func(s *api.Store) { s.Stable[0].Stopped, s.Stable[0].Version = true, 77 })
	r.does(revert(1, 3), value(3), func(s *api.Store) {
		s.Deploys[0].State = deployFailed
		r.pending(s, 1)
	})
}

// P11.3: with one that differs, in whatever is asked for, the job is that one, with a new Version and a running Deploy; what was reverted is not reverted again.
func TestRevertToAnother(t *testing.T) {
	for _, change := range []func(j *api.Job){
		func(j *api.Job) { j.Priority = 51 },
		func(j *api.Job) { j.Parallel = 2 },
		func(j *api.Job) { j.Groups[0].Count = 2 },
		func(j *api.Job) { j.Groups[0].Ask.CPU = 500 },
		func(j *api.Job) { j.Groups[0].Ask.Mem = 6 },
		func(j *api.Job) { j.Groups = append(j.Groups, api.Group{}) },
	} {
		r := stable(t)
		j := job(1, service, 1)
		change(&j)
		r.ok(submit(j))
		if r.deploy(1).State != deployRunning {
			t.Fatalf("%+v", r.s)
		}
		r.does(revert(1, 2), value(3), func(s *api.Store) {
			s.Jobs[0] = job(1, service, 1)
			s.Jobs[0].Version = 3
			s.Deploys[0] = api.Deploy{Job: 1, Version: 3, State: deployRunning, Index: s.Index}
			s.Evals[0] = api.Eval{Job: 1, Priority: 50, State: evalPending, Index: s.Index}
		})
		r.refuses(revert(1, 2), errOld)
		r.ok(r.plan(1))
		r.does(revert(1, 3), value(3), func(s *api.Store) {
			s.Deploys[0].State = deployFailed
			r.pending(s, 1)
		})
		r.refuses(revert(1, 3), errOld)
	}
}

// P11.3: the same groups in another order, or fewer of them, are others.
func TestRevertToOtherGroups(t *testing.T) {
	r := begin(t)
	two := job(1, service, 0, 0)
	two.Groups[0].Ask = res(1, 1)
	turned := job(1, service, 0, 0)
	turned.Groups[1].Ask = res(1, 1)
	r.ok(submit(two))
	for i, j := range []api.Job{turned, job(1, service, 0), job(1, service, 0, 0)} {
		r.ok(submit(two), submit(j))
		last := r.job(1).Version
		r.byHand(func(s *api.Store) {
			s.Stable[0] = two
			s.Stable[0].Version = last - 1
			s.Deploys[0].State = deployRunning
		})
		if got := r.apply(revert(1, last)); !alike(got, value(last+1)) || !alike(r.job(1).Groups, two.Groups) {
			t.Errorf("%d: %+v, %+v", i, got, r.s)
		}
	}
}

// P11.3: a Type that differs counts too, though no entries lead there; neither is Stopped behind it.
func TestRevertByHand(t *testing.T) {
	r := stable(t)
	r.ok(submit(job(1, service, 1)))
	r.byHand(func(s *api.Store) {
		s.Jobs[0].Stopped = true
		s.Stable[0].Type, s.Stable[0].Stopped, s.Stable[0].Version = batch, true, 77
	})
	r.does(revert(1, 2), value(3), func(s *api.Store) {
		s.Jobs[0].Type, s.Jobs[0].Version, s.Jobs[0].Stopped = batch, 3, false
		s.Deploys[0] = api.Deploy{Job: 1, Version: 3, State: deployRunning, Index: s.Index}
		r.pending(s, 1)
	})
}

// P11.3: a Stable without slots is deployed at once, and stable with its new Version.
func TestRevertToNoSlots(t *testing.T) {
	r := begin(t)
	r.ok(submit(job(2, service, 1)), submit(job(1, service, 0)), submit(job(1, service, 4)))
	r.does(revert(1, 2), value(3), func(s *api.Store) {
		s.Jobs[0] = job(1, service, 0)
		s.Jobs[0].Version = 3
		s.Stable = []api.Job{s.Jobs[0]}
		s.Deploys[0] = api.Deploy{Job: 1, Version: 3, State: deployDone, Index: s.Index}
		r.pending(s, 1)
	})
	r.refuses(revert(1, 3), errOld)
}

// P11.3: behind the Version MaxNumber there is none to revert to: ErrOld, and nothing is done; what needs none is done.
func TestRevertAtTheLastVersion(t *testing.T) {
	last := func(j api.Job, version int) *run {
		r := stable(t)
		r.ok(submit(j))
		r.byHand(func(s *api.Store) { s.Jobs[0].Version, s.Deploys[0].Version = version, version })
		return r
	}
	r := last(job(1, service, 2), maxNumber)
	r.refuses(revert(1, maxNumber), errOld)
	r.refuses(revert(1, maxNumber), errOld)
	r.refuses(revert(1, maxNumber-1), errOld)
	r.refuses(revert(1, maxNumber+1), errOld)
	r = last(job(1, service, 2), maxNumber-1)
	r.does(revert(1, maxNumber-1), value(maxNumber), func(s *api.Store) {
		s.Jobs[0] = job(1, service, 1)
		s.Jobs[0].Version = maxNumber
		s.Deploys[0] = api.Deploy{Job: 1, Version: maxNumber, State: deployRunning, Index: s.Index}
		r.pending(s, 1)
	})
	r = last(job(1, service, 1), maxNumber)
	r.does(revert(1, maxNumber), value(maxNumber), func(s *api.Store) {
		s.Deploys[0].State = deployFailed
		r.pending(s, 1)
	})
	r = last(job(1, service, 2), maxNumber)
	r.byHand(func(s *api.Store) { s.Stable = nil })
	r.does(revert(1, maxNumber), value(maxNumber), func(s *api.Store) {
		s.Deploys[0].State = deployFailed
		r.pending(s, 1)
	})
}

// P11.3: of CmdRevert only the ID and the Version are looked at.
func TestRevertOfOtherFields(t *testing.T) {
	r := stable(t)
	c := revert(2, 1)
	c.Job.Type, c.Job.Priority, c.Job.Groups, c.Job.Stopped = 9, -1, make([]api.Group, 9), true
	r.does(c, value(1), func(s *api.Store) {
		deployIn(t, s, 2).State = deployFailed
		r.pending(s, 2)
	})
}

// The whole way of a change that is reverted: the tasks of the version that was stable run on, and are of an older one.
func TestRevertAndRunAgain(t *testing.T) {
	r := stable(t)
	wide := job(1, service, 1)
	wide.Groups[0].Ask = res(500, 1)
	r.ok(submit(wide))
	r.planned(r.plan(1, at(0, 0, 1)), errPart, nil, nil)
	r.block(1)
	r.ok(revert(1, 2)).ok(r.stops(1, 1)).ok(r.says(1, ended(1))).ok(r.plan(1, at(0, 0, 1))).ok(r.says(1, running(2)))
	if d := *r.deploy(1); d != (api.Deploy{Job: 1, Version: 3, State: deployDone, Index: r.s.Index}) || r.s.Stable[0].Version != 3 {
		t.Errorf("%+v", r.s)
	}
}
