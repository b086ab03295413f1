package fsm_test

import (
	"math"
	"testing"

	"coxswain/api"
)

// submitted is what a submitted job of a version must change, of any job but a service whose slots are none.
func submitted(j api.Job, version int) func(s *api.Store) {
	return func(s *api.Store) {
		j.Version, j.Stopped = version, false
		m := modelOf(*s)
		m.jobs[j.ID] = j
		m.evals[j.ID] = api.Eval{Job: j.ID, Priority: j.Priority, State: evalPending, Index: s.Index}
		if j.Type == service {
			m.deploys[j.ID] = api.Deploy{Job: j.ID, Version: version, State: deployRunning, Index: s.Index}
		}
		*s = m.store()
	}
}

// P11.3: new jobs of each type, and their next versions; only a service has a Deploy. Lists rise in whatever order jobs come.
func TestSubmit(t *testing.T) {
	r := begin(t)
	for _, j := range []api.Job{job(4, service, 2), job(2, batch, 4, 1), job(9, system, 1, 1), job(1, service, 1), job(maxNumber, batch, 1), job(5, service, 4, 4)} {
		r.does(submit(j), value(1), submitted(j, 1))
	}
	for version := 2; version < 5; version++ {
		for _, j := range []api.Job{job(1, service, version), job(2, batch, 0), job(9, system, 1), job(maxNumber, batch, 4)} {
			j.Priority, j.Parallel = version, version
			r.does(submit(j), value(version), submitted(j, version))
		}
	}
}

// P11.3: the Version and Stopped that are handed in do not count.
func TestSubmitOfVersionAndStopped(t *testing.T) {
	r := begin(t)
	for i, n := range farNumbers() {
		j := job(1, service, 1)
		j.Version, j.Stopped = n, true
		r.does(submit(j), value(i+1), submitted(j, i+1))
	}
}

// P11.3: a job that was Stopped is not any more, and has a running Deploy again.
func TestSubmitOfAStoppedJob(t *testing.T) {
	r := begin(t)
	for _, j := range []api.Job{job(1, service, 1), job(2, batch, 1), job(3, system, 1)} {
		r.ok(submit(j), cancel(j.ID))
		if !r.job(j.ID).Stopped {
			t.Fatal(r.s)
		}
		r.does(submit(j), value(2), submitted(j, 2))
	}
}

// P11.3: spec.Job's error, of each number by itself, of a new job and of one that is there.
func TestSubmitOfJobsThatMayNotBe(t *testing.T) {
	r := begin(t)
	r.ok(submit(job(1, service, 1)), submit(job(2, system, 1)))
	for _, change := range []func(j *api.Job){
		func(j *api.Job) { j.Type = 0 }, func(j *api.Job) { j.Type = 4 },
		func(j *api.Job) { j.Priority = 0 }, func(j *api.Job) { j.Priority = 101 },
		func(j *api.Job) { j.Parallel = 0 }, func(j *api.Job) { j.Parallel = 9 },
		func(j *api.Job) { j.Groups = nil }, func(j *api.Job) { j.Groups = []api.Group{} },
		func(j *api.Job) { j.Groups = make([]api.Group, 3) },
		func(j *api.Job) { j.Groups[0].Count = -1 }, func(j *api.Job) { j.Groups[0].Count = 5 },
		func(j *api.Job) { j.Groups[0].Ask.CPU = -1 }, func(j *api.Job) { j.Groups[0].Ask.Mem = 1<<40 + 1 },
		func(j *api.Job) { j.ID = 0 }, func(j *api.Job) { j.ID = -1 }, func(j *api.Job) { j.ID = maxNumber + 1 },
		func(j *api.Job) { j.ID, j.Type = math.MinInt, math.MaxInt },
	} {
		for id := 1; id <= 3; id++ {
			j := job(id, service, 1)
			change(&j)
			r.refuses(submit(j), errJob)
		}
	}
	r.refuses(submit(job(2, system, 2)), errJob)
	r.refuses(submit(job(2, system, 0)), errJob)
	r.refuses(submit(job(3, system, 1, 2)), errJob)
}

// P11.3: a job that is there has its Type for good.
func TestSubmitOfAnotherType(t *testing.T) {
	for was := service; was <= system; was++ {
		for is := service; is <= system; is++ {
			r := begin(t)
			r.ok(submit(job(1, was, 1)))
			if was == is {
				r.does(submit(job(1, is, 1)), value(2), submitted(job(1, is, 1), 2))
				continue
			}
			r.refuses(submit(job(1, is, 1)), errJob)
			r.ok(cancel(1))
			r.refuses(submit(job(1, is, 1)), errJob)
			r.does(submit(job(2, is, 1)), value(1), submitted(job(2, is, 1), 1))
		}
	}
}

// P11.3: behind the Version MaxNumber there is none.
func TestSubmitAtTheLastVersion(t *testing.T) {
	for kind := service; kind <= system; kind++ {
		r := begin(t)
		r.ok(submit(job(1, kind, 1)), submit(job(2, kind, 1)))
		r.byHand(func(s *api.Store) { s.Jobs[0].Version = maxNumber - 1 })
		r.does(submit(job(1, kind, 1)), value(maxNumber), submitted(job(1, kind, 1), maxNumber))
		r.refuses(submit(job(1, kind, 1)), errJob)
		r.does(by(1, 1, submit(job(1, kind, 1))), code(errJob), func(s *api.Store) {
			s.Seen = []api.Seen{{Client: 1, Req: 1, Answer: code(errJob)}}
		})
		r.does(submit(job(2, kind, 1)), value(2), submitted(job(2, kind, 1), 2))
	}
}

// P11.3: of MaxJobs jobs another one is ErrFull, behind spec.Job's error; those that are there may be changed, also Stopped ones.
func TestSubmitAtMaxJobs(t *testing.T) {
	r := begin(t)
	for id := 1; id <= maxJobs; id++ {
		j := job(2*id, 1+id%3, 1)
		r.does(submit(j), value(1), submitted(j, 1))
	}
	for _, id := range []int{1, 3, 13, 14, maxNumber} {
		for kind := service; kind <= system; kind++ {
			r.refuses(submit(job(id, kind, 1)), errFull)
		}
		r.refuses(submit(job(id, 4, 1)), errJob)
		r.refuses(submit(job(id, service)), errJob)
	}
	r.ok(cancel(4))
	r.refuses(submit(job(1, service, 1)), errFull)
	for id := 1; id <= maxJobs; id++ {
		j := job(2*id, 1+id%3, 1)
		r.does(submit(j), value(2), submitted(j, 2))
	}
}

// P11.3: a service without slots is deployed, and stable, at once; one with a slot is not, nor a job of another type.
func TestSubmitOfNoSlots(t *testing.T) {
	r := begin(t)
	r.ok(submit(job(5, service, 1)))
	for version, counts := range [][]int{{0}, {0, 0}} {
		j := job(3, service, counts...)
		j.Priority = 60 + version
		r.does(submit(j), value(version+1), func(s *api.Store) {
			submitted(j, version+1)(s)
			deployIn(t, s, 3).State = deployDone
			s.Stable = []api.Job{*jobIn(t, s, 3)}
		})
	}
	j := job(3, service, 0, 1)
	r.does(submit(j), value(3), submitted(j, 3))
	r.does(submit(job(2, batch, 0)), value(1), submitted(job(2, batch, 0), 1))
	for _, id := range []int{4, 1} {
		r.does(submit(job(id, service, 0)), value(1), func(s *api.Store) {
			submitted(job(id, service, 0), 1)(s)
			deployIn(t, s, id).State = deployDone
			m := modelOf(*s)
			m.stable[id] = *jobIn(t, s, id)
			*s = m.store()
		})
	}
}

// P11.3: another version of a service whose tasks run: they stay, of their version, none of them counts, and Stable stays.
func TestSubmitBesideWhatRuns(t *testing.T) {
	r := begin(t)
	r.ok(register(node(1, 1)), submit(job(1, service, 1)), submit(job(2, service, 1)))
	r.ok(r.plan(1, at(0, 0, 1))).ok(r.plan(2, at(0, 0, 1)))
	r.ok(r.says(1, api.Report{Alloc: 1, State: allocRunning}))
	if len(r.s.Stable) != 1 || r.deploy(1).State != deployDone || r.deploy(2).State != deployRunning {
		t.Fatal(r.s)
	}
	j := job(1, service, 2)
	r.does(submit(j), value(2), submitted(j, 2))
	r.does(submit(j), value(3), submitted(j, 3))
}

// P11.3: CmdCancel: the job is Stopped; a Deploy that is running fails, with its Index and Version, another one stays.
func TestCancel(t *testing.T) {
	r := begin(t)
	r.ok(register(node(1, 1)), submit(job(2, service, 1)), submit(job(1, service, 0)), submit(job(3, batch, 1)), submit(job(4, system, 1)), submit(job(5, service, 1)))
	r.ok(r.plan(2, at(0, 0, 1))).ok(r.plan(3, at(0, 0, 1)))
	r.block(4)
	r.does(cancel(2), code(ok), func(s *api.Store) {
		jobIn(t, s, 2).Stopped = true
		deployIn(t, s, 2).State = deployFailed
		r.pending(s, 2)
	})
	for _, id := range []int{1, 2, 3, 4, 4, 3} {
		r.does(cancel(id), code(ok), func(s *api.Store) {
			jobIn(t, s, id).Stopped = true
			r.pending(s, id)
		})
	}
	if r.deploy(1).State != deployDone || r.deploy(2).State != deployFailed || r.deploy(5).State != deployRunning {
		t.Errorf("%+v", r.s.Deploys)
	}
}

// P11.3: CmdCancel looks at the ID alone; ErrNoJob of one that is not there.
func TestCancelOfNoJob(t *testing.T) {
	r := begin(t)
	r.refuses(cancel(1), errNoJob)
	r.ok(submit(job(2, service, 1)))
	for _, id := range append([]int{3, 4, 5, 6}, farNumbers()...) {
		if id != 2 {
			r.refuses(cancel(id), errNoJob)
			r.refuses(api.Cmd{Op: cmdCancel, Job: job(id, service, 1)}, errNoJob)
		}
	}
	r.does(api.Cmd{Op: cmdCancel, Job: api.Job{ID: 2, Type: 99, Version: -7, Priority: -1}}, code(ok), func(s *api.Store) {
		s.Jobs[0].Stopped = true
		s.Deploys[0].State = deployFailed
		r.pending(s, 2)
	})
}
