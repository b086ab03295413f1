package sched_test

import (
	"math/rand"
	"testing"

	"coxswain/api"
	"coxswain/fsm"
	"coxswain/sched"
	"coxswain/store"
)

// run is a store that came of fsm's Applies.
type run struct {
	t testing.TB
	s api.Store
}

func begin(t testing.TB, commands ...api.Cmd) *run {
	t.Helper()
	r := &run{t: t, s: fsm.New()}
	r.ok(commands...)
	return r
}

func (r *run) apply(c api.Cmd) api.Result {
	var result api.Result
	r.s, result = fsm.Apply(r.s, api.Entry{Index: r.s.Index + 1, Term: 1, Cmd: c})
	return result
}

// ok applies commands that must not be refused.
func (r *run) ok(commands ...api.Cmd) {
	r.t.Helper()
	for _, c := range commands {
		if result := r.apply(c); result.Code != ok {
			r.t.Fatalf("%+v: %v, of %+v", c, result.Code, r.s)
		}
	}
}

func (r *run) job(id int) api.Job     { return r.s.Jobs[store.Job(r.s, id)] }
func (r *run) node(id int) api.Node   { return r.s.Nodes[store.Node(r.s, id)] }
func (r *run) eval(job int) api.Eval  { return r.s.Evals[store.Eval(r.s, job)] }
func (r *run) alloc(id int) api.Alloc { return r.s.Allocs[store.Alloc(r.s, id)] }

func submit(id, kind, parallel int, groups ...api.Group) api.Cmd {
	return api.Cmd{Op: cmdSubmit, Job: api.Job{ID: id, Type: kind, Priority: 50, Parallel: parallel, Groups: groups}}
}

func register(id, boot, cpu, mem int) api.Cmd {
	return api.Cmd{Op: cmdRegister, Node: api.Node{ID: id, Cap: res(cpu, mem), Boot: boot}}
}

func cancel(id int) api.Cmd { return api.Cmd{Op: cmdCancel, Job: api.Job{ID: id}} }

func drain(id int, on bool) api.Cmd {
	return api.Cmd{Op: cmdDrain, Node: api.Node{ID: id, Drain: on}}
}

func propose(p api.Plan) api.Cmd { return api.Cmd{Op: cmdPlan, Plan: p} }

// says is a node's next beat.
func says(n api.Node, reports ...api.Report) api.Cmd {
	return api.Cmd{Op: cmdBeat, Node: api.Node{ID: n.ID, Epoch: n.Epoch, Seq: n.Seq + 1}, Reports: reports}
}

// falls is what gives a node up.
func falls(n api.Node) api.Cmd {
	return api.Cmd{Op: cmdDown, Node: api.Node{ID: n.ID, Epoch: n.Epoch, Seq: n.Seq}}
}

// walker thinks of the next command for a store.
type walker struct {
	*rand.Rand
	old []api.Store // as workers may see it
}

func (w *walker) one(n ...int) int { return n[w.Intn(len(n))] }

func (w *walker) next(s api.Store) api.Cmd {
	switch n := w.Intn(100); {
	case len(s.Nodes) < 2 || n < 6:
		return w.register(s)
	case len(s.Jobs) < 2 || n < 18:
		return w.submit()
	case n < 20:
		return cancel(1 + w.Intn(6))
	case n < 22:
		return falls(s.Nodes[w.Intn(len(s.Nodes))])
	case n < 28:
		return drain(1+w.Intn(4), w.Intn(3) == 0)
	case n < 30:
		return w.revert(s)
	case n < 65:
		return w.beat(s)
	}
	return w.plan(s)
}

// submit is one of six jobs, whose ID tells its type; that of a batch job is mostly great, so that many are done.
func (w *walker) submit() api.Cmd {
	id := 1 + w.Intn(6)
	kind := []int{service, batch, system, service, batch, batch}[id-1]
	var groups []api.Group
	for range 1 + w.Intn(2) {
		g := group(w.one(0, 1, 2, 3, 4, 4, 4), w.one(0, 1, 5, 10, 10, 30, 200), w.one(0, 1, 5, 10))
		if kind == system {
			g.Count = 1
		}
		groups = append(groups, g)
	}
	return submit(id, kind, 1+w.Intn(8), groups...)
}

func (w *walker) register(s api.Store) api.Cmd {
	id, boot := 1+w.Intn(4), 1
	if at := store.Node(s, id); at >= 0 {
		boot = s.Nodes[at].Boot + 1
	}
	return register(id, boot, w.one(0, 10, 50, 100, 150), w.one(5, 20, 50, 80))
}

// beat tells most of what a node holds: that it runs, or is over.
func (w *walker) beat(s api.Store) api.Cmd {
	n := s.Nodes[w.Intn(len(s.Nodes))]
	c := says(n)
	for _, a := range s.Allocs {
		if a.Node != n.ID || a.State >= allocDone || w.Intn(4) == 0 {
			continue
		}
		state := w.one(allocRunning, allocRunning, allocRunning, allocDone, allocFailed)
		if a.Stop {
			state = allocEnded
		}
		c.Reports = append(c.Reports, api.Report{Alloc: a.ID, State: state})
	}
	return c
}

func (w *walker) revert(s api.Store) api.Cmd {
	c := api.Cmd{Op: cmdRevert}
	if len(s.Deploys) > 0 {
		d := s.Deploys[w.Intn(len(s.Deploys))]
		c.Job = api.Job{ID: d.Job, Version: d.Version}
	}
	return c
}

// plan is one of a worker that sees the store as it is, or as it was, or with some of its plan left out.
func (w *walker) plan(s api.Store) api.Cmd {
	if w.Intn(4) == 0 && len(w.old) > 0 {
		s = w.old[w.Intn(len(w.old))]
	}
	w.old = append(w.old, s)
	if len(w.old) > 4 {
		w.old = w.old[1:]
	}
	p := sched.Plan(s, 1+w.Intn(6))
	if w.Intn(3) == 0 && len(p.Places) > 0 {
		p.Places = p.Places[w.Intn(len(p.Places)):]
	}
	return propose(p)
}
