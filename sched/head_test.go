package sched_test

import (
	"testing"

	"coxswain/api"
)

// P14.1: without such a job the plan is empty, whoever else has the number.
func TestNoSuchJob(t *testing.T) {
	none := api.Plan{}
	plan(t, api.Store{}, 0, none)
	plan(t, api.Store{}, 1, none)
	s := of(job(service, group(2, 1, 1)), up(5, 9, 9))
	s.Index, s.Next = 6, 7
	s.Stable = []api.Job{{ID: 8, Type: service, Version: 1, Groups: []api.Group{group(1, 1, 1)}}}
	s.Evals = append(s.Evals, api.Eval{Job: 3, State: evalPending, Index: 9}, api.Eval{Job: 0, State: evalPending, Index: 9})
	s.Deploys = []api.Deploy{{Job: 3, Version: 1, State: 1, Index: 9}}
	s.Allocs = []api.Alloc{{ID: 4, Job: 3, Node: 5, State: allocRunning}, {ID: 5, Job: 0, State: allocRunning}}
	for _, id := range []int{-1, 0, 2, 3, 4, 5, 6, 7, 8, 41, 50, 1 + 1<<8, 1 + 1<<32} {
		plan(t, s, id, none)
	}
	for _, id := range farNumbers() {
		if id != 1 {
			plan(t, s, id, none)
		}
	}
	fills(t, s, 0, 0, 5, 0, 1, 5)
}

// P14.1: of two jobs of one ID the first counts: its Version, its Type and its Groups; of others nothing does.
func TestFirstOfTwoJobs(t *testing.T) {
	one := job(service, group(1, 3, 3))
	two := job(system, group(1, 5, 5), group(1, 6, 6))
	two.Version, two.Stopped = 7, true
	alone := job(batch, group(4, 2, 2))
	alone.ID = 3
	s := of(one, up(4, 30, 30))
	for _, jobs := range [][]api.Job{{one}, {one, two}, {alone, one, two}, {one, alone, two, two}} {
		s.Jobs = jobs
		fills(t, s, 0, 0, 4)
	}
	two.Version, two.Stopped = 2, false
	for _, jobs := range [][]api.Job{{two}, {two, one}, {alone, two, one}} {
		s.Jobs = jobs
		fills(t, s, 0, 4, 4, 1, 4, 4)
	}
}

// P14.1: Job and Version are the job's, whatever they are.
func TestJobAndVersion(t *testing.T) {
	for _, id := range farNumbers() {
		for _, version := range farNumbers() {
			j := job(service, group(1, 3, 4))
			j.ID, j.Version = id, version
			place := api.Alloc{Job: id, Version: version, Node: 5, Epoch: 35, Ask: res(3, 4)}
			plan(t, of(j, up(5, 9, 9)), id, api.Plan{Job: id, Version: version, Index: 41, Places: []api.Alloc{place}})
		}
	}
}

// P14.1: Index is that of the job's Eval, of the first of two, in whatever State; 0 without one.
func TestIndexOfTheEval(t *testing.T) {
	s := of(job(service, group(1, 3, 4)), up(5, 9, 9))
	s.Index, s.Next = 55, 66
	s.Deploys = []api.Deploy{{Job: 1, Version: 2, State: 1, Index: 77}}
	index := func(want int, evals ...api.Eval) {
		t.Helper()
		s.Evals = evals
		plan(t, s, 1, api.Plan{Job: 1, Version: 2, Index: want, Places: fill(s, 0, 0, 5)})
	}
	index(0)
	index(0, api.Eval{Job: 2, State: evalPending, Index: 9}, api.Eval{Job: 0, State: evalPending, Index: 1})
	index(9, api.Eval{Job: 1, State: evalPending, Index: 9})
	index(9, api.Eval{Job: 2, State: evalPending, Index: 4}, api.Eval{Job: 1, State: evalPending, Index: 9}, api.Eval{Job: 1, State: evalPending, Index: 12})
	index(12, api.Eval{Job: 1, State: evalDone, Index: 12}, api.Eval{Job: 1, State: evalPending, Index: 9})
	for _, state := range append(farNumbers(), evalPending, evalBlocked, evalDone) {
		index(9, api.Eval{Job: 1, Priority: 3, State: state, Index: 9})
	}
	for _, far := range farNumbers() {
		index(far, api.Eval{Job: 1, Priority: far, State: evalPending, Index: far})
		index(0, api.Eval{Job: 1, State: evalPending}, api.Eval{Job: 1, State: evalPending, Index: far})
	}
}

// P14.1: a job that wants nothing, or is Stopped, has a plan of its numbers alone.
func TestNothingToDo(t *testing.T) {
	for _, kind := range []int{service, batch, system, 0, 4} {
		s := of(job(kind), up(5, 9, 9))
		fills(t, s)
		s.Jobs[0].Groups = []api.Group{group(1, 3, 3)}
		s.Jobs[0].Stopped = true
		fills(t, s)
		s.Evals = nil
		plan(t, s, 1, api.Plan{Job: 1, Version: 2})
	}
	fills(t, of(job(service, group(0, 99, 99), group(-1, 99, 99)), up(5, 9, 9)))
	fills(t, of(job(system, group(1, 99, 99))))
	fills(t, of(job(system, group(1, 1, 1)), gone(1, 9, 9), drained(2, 9, 9)))
	fills(t, with(of(job(service, group(2, 99, 99)), up(5, 9, 9)), at(3, 0, 0, 2), at(4, 0, 1, 2)))
	fills(t, with(of(job(batch, group(2, 99, 99)), up(5, 9, 9)), at(3, 0, 0, 2), in(allocDone, at(4, 0, 1, 2))))
	fills(t, with(of(job(system, group(1, 99, 99)), up(5, 9, 9)), at(3, 0, 5, 2)))
}
