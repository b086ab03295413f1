package fsm_test

import (
	"math"
	"slices"
	"testing"

	"coxswain/api"
)

// planned applies a plan that must answer so, with these allocations new behind it, in this order; the rest of the change is told too.
func (r *run) planned(c api.Cmd, e api.Errno, places []api.Alloc, change func(s *api.Store)) {
	r.t.Helper()
	r.does(c, api.Result{Code: e, Value: r.s.Index + 1}, func(s *api.Store) {
		r.t.Helper()
		for _, a := range places {
			a.ID, a.Stop, a.State = s.Next, false, allocNew
			s.Allocs = append(s.Allocs, a)
			s.Next++
		}
		v := evalIn(r.t, s, c.Plan.Job)
		switch {
		case e == errPart:
			v.Index = s.Index
		case c.Plan.Blocked:
			v.State = evalBlocked
		default:
			v.State = evalDone
		}
		if change != nil {
			change(s)
		}
	})
}

// P11.3: ErrPlan, unless the job is there with the plan's Version, and its Eval is pending, of the plan's Index; not even Stops are done then.
func TestPlanRefused(t *testing.T) {
	r := begin(t)
	r.refuses(api.Cmd{Op: cmdPlan}, errPlan)
	r.ok(register(node(1, 1)), submit(job(1, service, 4)), submit(job(1, service, 4)), submit(job(1, service, 4)), submit(job(2, service, 4)))
	good := r.plan(1, at(0, 0, 1))
	with := func(change func(p *api.Plan)) api.Cmd {
		c := plain(good, false)
		change(&c.Plan)
		return c
	}
	for _, n := range append([]int{3, 4, 5, 6}, farNumbers()...) {
		if n != 1 {
			r.refuses(with(func(p *api.Plan) { p.Job = n }), errPlan)
		}
		if n != 3 {
			r.refuses(with(func(p *api.Plan) { p.Version = n }), errPlan)
		}
		if n != good.Plan.Index {
			r.refuses(with(func(p *api.Plan) { p.Index = n }), errPlan)
		}
	}
	r.refuses(with(func(p *api.Plan) { p.Index = r.s.Index + 1 }), errPlan)
	r.planned(good, ok, good.Plan.Places, nil)
	r.refuses(good, errPlan)
	r.refuses(with(func(p *api.Plan) { p.Places, p.Stops = nil, []int{1} }), errPlan)
	r.ok(submit(job(1, service, 4)))
	r.block(1)
	r.refuses(r.stops(1, 1), errPlan)
	r.refuses(r.plan(1, at(0, 1, 1)), errPlan)
	for _, state := range []int{0, 4, -1, math.MaxInt} {
		r.byHand(func(s *api.Store) { s.Evals[0].State = state })
		c := r.plan(1, at(0, 1, 1))
		if got := r.apply(c); got.Code != errPlan || got.Value != 0 {
			t.Errorf("%d: %+v", state, got)
		}
	}
	r.byHand(func(s *api.Store) { s.Evals = s.Evals[1:] })
	r.refuses(api.Cmd{Op: cmdPlan, Plan: api.Plan{Job: 1, Version: 4}}, errPlan)
}

// P11.3: an empty plan ends the evaluation, Blocked or not; its Index and Priority stay.
func TestPlanOfNothing(t *testing.T) {
	for _, blocked := range []bool{true, false} {
		r := begin(t)
		r.ok(submit(job(1, service, 1)), submit(job(2, batch, 1)))
		c := r.plan(2)
		c.Plan.Blocked = blocked
		r.planned(c, ok, nil, nil)
		want := api.Eval{Job: 2, Priority: 50, State: evalDone, Index: 2}
		if blocked {
			want.State = evalBlocked
		}
		if *r.eval(2) != want || r.eval(1).State != evalPending {
			t.Errorf("%+v", r.s.Evals)
		}
	}
}

// P11.3: Stops: those that are there, of this job, and not over, are to Stop; all others are passed over. Places come behind them.
func TestPlanStops(t *testing.T) {
	r := busy(t)
	r.ok(drain(2, true), drain(2, false), drain(1, true), drain(1, false))
	c := r.stops(2, append([]int{7, 2, 5, 4, 1, 3, 6, 7, 8, 0, -7}, farNumbers()...)...)
	r.planned(c, ok, nil, func(s *api.Store) { allocIn(t, s, 7).Stop = true })
	c = r.stops(1, 4, 2, 7)
	r.planned(c, ok, nil, func(s *api.Store) { allocIn(t, s, 4).Stop = true })
	r.ok(submit(job(1, service, 3)))
	c = r.plan(1, at(0, 2, 1))
	c.Plan.Stops = []int{1, 4}
	c.Plan.Blocked = true
	r.planned(c, ok, c.Plan.Places, func(s *api.Store) { allocIn(t, s, 1).Stop = true })
}

// P11.3: what is to Stop holds its slot, and its room, till it is over.
func TestPlanStopsFreeNothing(t *testing.T) {
	r := begin(t)
	wide := job(1, service, 1)
	wide.Groups[0].Ask = res(60, 5)
	r.ok(register(node(1, 1)), register(node(2, 1)), submit(wide)).ok(r.plan(1, at(0, 0, 1))).ok(submit(wide))
	c := r.plan(1, at(0, 0, 2))
	c.Plan.Stops = []int{1}
	r.planned(c, errPart, nil, func(s *api.Store) { allocIn(t, s, 1).Stop = true })
	other := job(2, service, 1)
	other.Groups[0].Ask = res(41, 5)
	r.ok(submit(other))
	r.planned(r.plan(2, at(0, 0, 1)), errPart, nil, nil)
	r.ok(r.says(1, ended(1)))
	c = r.plan(2, at(0, 0, 1))
	r.planned(c, ok, c.Plan.Places, nil)
	c = r.plan(1, at(0, 0, 1))
	r.planned(c, errPart, nil, nil)
	c = r.plan(1, at(0, 0, 2))
	r.planned(c, ok, c.Plan.Places, nil)
}

// P11.3: Places are done node by node, the least first, of each in their order; their ID, Stop and State do not count.
func TestPlanInWhichOrder(t *testing.T) {
	r := begin(t)
	for id := 1; id <= 4; id++ {
		r.ok(register(node(id, 1)))
	}
	r.ok(submit(job(1, batch, 4, 4)))
	c := r.plan(1, at(1, 3, 3), at(0, 2, 1), at(0, 0, 4), at(1, 1, 3), at(0, 1, 1), at(0, 3, 3), at(1, 0, 2))
	p := c.Plan.Places
	for i := range p {
		p[i].ID, p[i].Stop, p[i].State = 77-i, i%2 == 0, i
	}
	r.planned(c, ok, []api.Alloc{p[1], p[4], p[6], p[0], p[3], p[5], p[2]}, nil)
	if r.s.Next != 8 {
		t.Errorf("Next: %d", r.s.Next)
	}
}

// P11.3: of a node all Places are done or none, of the others whatever may be.
func TestPlanOfSeveralNodes(t *testing.T) {
	r := begin(t)
	for id := 1; id <= 4; id++ {
		r.ok(register(node(id, 1)))
	}
	r.ok(submit(job(1, service, 4, 4)))
	c := r.plan(1, at(0, 0, 2), at(0, 1, 1), at(0, 2, 2), at(0, 3, 3), at(1, 0, 2), at(1, 1, 4))
	p := c.Plan.Places
	c.Plan.Blocked = true
	for _, bad := range []int{0, 2, 4} {
		with := plain(c, false)
		with.Plan.Index = r.eval(1).Index
		with.Plan.Places[bad].Ask = res(11, 5)
		if bad == 0 {
			r.planned(with, errPart, []api.Alloc{p[1], p[3], p[5]}, nil)
			continue
		}
		with.Plan.Places = slices.DeleteFunc(with.Plan.Places, func(a api.Alloc) bool { return a.Node != 2 })
		r.planned(with, errPart, nil, nil)
	}
	rest := r.plan(1, at(0, 0, 2), at(0, 2, 2), at(1, 0, 2), at(1, 2, 1))
	r.planned(rest, ok, []api.Alloc{rest.Plan.Places[3], rest.Plan.Places[0], rest.Plan.Places[1], rest.Plan.Places[2]}, nil)
}

// place is a job, of which a plan has one place, that may be done.
type place struct {
	name string
	job  api.Job
	at   api.Alloc
}

func goodPlaces() []place {
	return []place{
		{"service", job(1, service, 2, 4), at(0, 1, 2)},
		{"service, group 1", job(1, service, 2, 4), at(1, 3, 2)},
		{"batch", job(1, batch, 2, 4), at(0, 0, 2)},
		{"batch, group 1", job(1, batch, 2, 4), at(1, 2, 2)},
		{"system", job(1, system, 1, 1), at(0, 2, 2)},
		{"system, group 1", job(1, system, 1, 1), at(1, 2, 2)},
	}
}

// P11.3: each condition of a place, broken alone, by a change of the place or of what there is.
func TestPlaceConditions(t *testing.T) {
	type breach struct {
		name  string
		place func(a *api.Alloc)
		store func(r *run)
	}
	breaches := []breach{
		{name: "node 3 is not there", place: func(a *api.Alloc) { a.Node = 3 }},
		{name: "node 0", place: func(a *api.Alloc) { a.Node = 0 }},
		{name: "node -2", place: func(a *api.Alloc) { a.Node = -2 }},
		{name: "node least", place: func(a *api.Alloc) { a.Node = math.MinInt }},
		{name: "node greatest", place: func(a *api.Alloc) { a.Node = math.MaxInt }},
		{name: "job 2", place: func(a *api.Alloc) { a.Job = 2 }},
		{name: "job 0", place: func(a *api.Alloc) { a.Job = 0 }},
		{name: "an older version", place: func(a *api.Alloc) { a.Version-- }},
		{name: "a later version", place: func(a *api.Alloc) { a.Version++ }},
		{name: "an older epoch", place: func(a *api.Alloc) { a.Epoch-- }},
		{name: "a later epoch", place: func(a *api.Alloc) { a.Epoch++ }},
		{name: "group -1", place: func(a *api.Alloc) { a.Group = -1 }},
		{name: "group 2", place: func(a *api.Alloc) { a.Group = 2 }},
		{name: "group least", place: func(a *api.Alloc) { a.Group = math.MinInt }},
		{name: "group greatest", place: func(a *api.Alloc) { a.Group = math.MaxInt }},
		{name: "index -1", place: func(a *api.Alloc) { a.Index = -1 }},
		{name: "index 4", place: func(a *api.Alloc) { a.Index = 4 }},
		{name: "index least", place: func(a *api.Alloc) { a.Index = math.MinInt }},
		{name: "index greatest", place: func(a *api.Alloc) { a.Index = math.MaxInt }},
		{name: "more CPU", place: func(a *api.Alloc) { a.Ask.CPU++ }},
		{name: "less CPU", place: func(a *api.Alloc) { a.Ask.CPU-- }},
		{name: "more Mem", place: func(a *api.Alloc) { a.Ask.Mem++ }},
		{name: "no Mem", place: func(a *api.Alloc) { a.Ask.Mem = 0 }},
		{name: "not Up", store: func(r *run) { r.ok(r.falls(2)) }},
		{name: "Drain", store: func(r *run) { r.ok(drain(2, true)) }},
		{name: "Stopped", store: func(r *run) { r.ok(cancel(1)) }},
		{name: "too little CPU", store: func(r *run) { r.ok(register(api.Node{ID: 2, Cap: res(9, 50), Boot: 2})) }},
		{name: "too little Mem", store: func(r *run) { r.ok(register(api.Node{ID: 2, Cap: res(100, 4), Boot: 2})) }},
	}
	for _, p := range goodPlaces() {
		for _, b := range append(breaches, breach{name: "nothing"}) {
			r := begin(t)
			r.ok(register(node(2, 1)), register(node(1, 1)), submit(job(2, p.job.Type, 1)), submit(p.job), submit(p.job))
			if b.store != nil {
				b.store(r)
			}
			c := r.plan(1, p.at)
			if b.place != nil {
				b.place(&c.Plan.Places[0])
			}
			if b.name == "nothing" {
				r.planned(c, ok, c.Plan.Places, nil)
				continue
			}
			r.planned(c, errPart, nil, nil)
			if b.name == "Stopped" {
				r.planned(r.plan(1), ok, nil, nil)
			}
		}
	}
}

// P11.3: each Index of each group: 0 to Count - 1, of a system job the node.
func TestPlaceIndexes(t *testing.T) {
	for _, kind := range []int{service, batch, system} {
		for group := range 2 {
			for _, index := range append([]int{3, 4, 5}, farNumbers()...) {
				r := begin(t)
				j := job(1, kind, 1, 3)
				count := []int{1, 3}[group]
				if kind == system {
					j = job(1, kind, 1, 1)
				}
				r.ok(register(node(2, 1)), submit(j))
				c := r.plan(1, at(group, index, 2))
				if kind == system && index == 2 || kind != system && index >= 0 && index < count {
					r.planned(c, ok, c.Plan.Places, nil)
				} else {
					r.planned(c, errPart, nil, nil)
				}
			}
		}
	}
	r := begin(t)
	r.ok(register(node(1, 1)), submit(job(1, service, 0, 1)))
	r.planned(r.plan(1, at(0, 0, 1)), errPart, nil, nil)
	c := r.plan(1, at(1, 0, 1))
	r.planned(c, ok, c.Plan.Places, nil)
}

// P11.3: a system job has a slot on each node, in each group, and one only.
func TestPlaceSystemJobs(t *testing.T) {
	r := begin(t)
	for id := 1; id <= 4; id++ {
		r.ok(register(node(id, 1)))
	}
	r.ok(submit(job(1, system, 1, 1)))
	c := r.plan(1, at(0, 1, 1), at(1, 1, 1), at(0, 2, 2), at(1, 2, 2), at(0, 3, 3), at(1, 3, 3), at(0, 4, 4), at(1, 4, 4))
	r.planned(c, ok, c.Plan.Places, nil)
	r.ok(submit(job(1, system, 1, 1)))
	r.planned(r.plan(1, at(0, 1, 1), at(1, 2, 2)), errPart, nil, nil)
	r.ok(submit(job(2, system, 1)))
	for index := 0; index <= 5; index++ {
		if index != 3 {
			r.planned(r.plan(2, at(0, index, 3)), errPart, nil, nil)
		}
	}
	c = r.plan(2, at(0, 3, 3))
	r.planned(c, ok, c.Plan.Places, nil)
}

// P11.3: no slot is held twice: by a place ahead of it on its node or a lesser one, nor by what was there, of whatever Version, new, running or to Stop.
func TestPlaceInASlotThatIsHeld(t *testing.T) {
	for _, kind := range []int{service, batch} {
		r := begin(t)
		r.ok(register(node(1, 1)), register(node(2, 1)), submit(job(1, kind, 4, 4)))
		r.planned(r.plan(1, at(0, 0, 1), at(0, 0, 1)), errPart, nil, nil)
		r.planned(r.plan(1, at(0, 0, 1), at(0, 1, 1), at(1, 0, 1), at(0, 1, 1)), errPart, nil, nil)
		c := r.plan(1, at(0, 0, 2), at(0, 0, 1))
		r.planned(c, errPart, c.Plan.Places[1:], nil)
		c = r.plan(1, at(0, 1, 1), at(1, 0, 1))
		r.planned(c, ok, c.Plan.Places, nil)
		r.ok(submit(job(1, kind, 4, 4)), beat(1, 1, 1, running(2))).ok(r.stops(1, 3)).ok(submit(job(1, kind, 4, 4)))
		for _, slot := range [][2]int{{0, 0}, {0, 1}, {1, 0}} {
			for _, id := range []int{1, 2} {
				r.planned(r.plan(1, at(slot[0], slot[1], id)), errPart, nil, nil)
			}
		}
		c = r.plan(1, at(0, 2, 1), at(1, 1, 2))
		r.planned(c, ok, c.Plan.Places, nil)
		r.ok(submit(job(2, kind, 4, 4)))
		c = r.plan(2, at(0, 0, 1), at(0, 1, 1), at(1, 0, 2))
		r.planned(c, ok, c.Plan.Places, nil)
	}
}

// P11.3: a slot that was done of a batch job's Version is not filled again; of another Version, or over otherwise, or of another type it is.
func TestPlaceInASlotThatWasDone(t *testing.T) {
	for _, kind := range []int{service, batch, system} {
		for _, state := range []int{allocDone, allocFailed, allocEnded, allocLost} {
			for _, again := range []bool{false, true} {
				r := begin(t)
				j := job(1, kind, 1, 1)
				index := 0
				if kind == system {
					index = 1
				}
				r.ok(register(node(1, 1)), submit(j), submit(j)).ok(r.plan(1, at(0, index, 1)))
				switch state {
				case allocLost:
					r.ok(register(node(1, 2)))
				case allocEnded:
					r.ok(drain(1, true), drain(1, false)).ok(r.stops(1, 1)).ok(r.says(1, ended(1)))
				default:
					r.ok(r.says(1, api.Report{Alloc: 1, State: state}))
				}
				if again {
					r.ok(submit(j))
				}
				c := r.plan(1, at(0, index, 1))
				if kind == batch && state == allocDone && !again {
					r.planned(c, errPart, nil, nil)
					c = r.plan(1, at(1, index, 1))
				}
				r.planned(c, ok, c.Plan.Places, nil)
			}
		}
	}
}

// P11.3: what was done counts for its own slot alone, and also if others stand behind it.
func TestPlaceBesideWhatWasDone(t *testing.T) {
	r := begin(t)
	r.ok(register(node(1, 1)), register(node(2, 1)), submit(job(1, batch, 2, 2)), submit(job(2, batch, 2, 2)))
	r.ok(r.plan(1, at(0, 0, 1), at(1, 1, 1))).ok(r.says(1, done(1), failed(2)))
	r.planned(r.plan(1, at(0, 0, 2), at(0, 1, 2)), errPart, nil, nil)
	c := r.plan(1, at(0, 0, 1), at(0, 1, 2), at(1, 0, 2), at(1, 1, 2))
	r.planned(c, errPart, c.Plan.Places[1:], nil)
	c = r.plan(2, at(0, 0, 1), at(1, 1, 1))
	r.planned(c, ok, c.Plan.Places, nil)
}

// P11.3, P11.4: what fits beside what is used, in CPU and in Mem, up to the last of both; of one node all together.
func TestPlaceWhatFits(t *testing.T) {
	for _, capacity := range []api.Res{res(30, 50), res(100, 15), res(30, 15)} {
		r := begin(t)
		r.ok(register(api.Node{ID: 1, Cap: capacity, Boot: 1}), register(node(2, 1)), submit(job(1, service, 4)), submit(job(2, batch, 4)))
		r.planned(r.plan(1, at(0, 0, 1), at(0, 1, 1), at(0, 2, 1), at(0, 3, 1)), errPart, nil, nil)
		c := r.plan(1, at(0, 0, 1), at(0, 1, 1), at(0, 2, 1), at(0, 3, 2))
		r.planned(c, ok, c.Plan.Places, nil)
		r.planned(r.plan(2, at(0, 0, 1)), errPart, nil, nil)
		c = r.plan(2, at(0, 0, 1), at(0, 1, 2))
		r.planned(c, errPart, c.Plan.Places[1:], nil)
		r.ok(r.says(1, failed(2)))
		r.planned(r.plan(2, at(0, 0, 1), at(0, 2, 1)), errPart, nil, nil)
		c = r.plan(2, at(0, 0, 1))
		r.planned(c, ok, c.Plan.Places, nil)
	}
}

// P11.3: nothing fits beside nothing: Ask and Cap 0, and the greatest that there are.
func TestPlaceAtTheEdges(t *testing.T) {
	r := begin(t)
	free, whole := job(1, service, 4), job(2, service, 2)
	free.Groups[0].Ask, whole.Groups[0].Ask = res(0, 0), res(1<<40, 1<<40)
	r.ok(register(api.Node{ID: 1, Boot: 1}), register(api.Node{ID: 2, Cap: res(1<<40, 1<<40), Boot: 1}), submit(free), submit(whole))
	r.planned(r.plan(2, at(0, 0, 1)), errPart, nil, nil)
	r.planned(r.plan(2, at(0, 0, 2), at(0, 1, 2)), errPart, nil, nil)
	c := r.plan(2, at(0, 0, 2))
	r.planned(c, ok, c.Plan.Places, nil)
	c = r.plan(1, at(0, 0, 1), at(0, 1, 1), at(0, 2, 2))
	r.planned(c, ok, c.Plan.Places, nil)
	r.ok(submit(whole))
	r.planned(r.plan(2, at(0, 1, 2)), errPart, nil, nil)
}

// P11.3: behind a part the evaluation is pending as of now: the same plan comes too late, one of its new Index does not.
func TestPlanOfAPart(t *testing.T) {
	r := begin(t)
	r.ok(register(node(1, 1)), submit(job(1, service, 2)))
	bad := r.plan(1, at(0, 0, 1), at(0, 1, 1))
	bad.Plan.Places[1].Node = 4
	bad.Plan.Blocked = true
	r.planned(bad, errPart, bad.Plan.Places[:1], nil)
	r.refuses(bad, errPlan)
	c := r.plan(1, at(0, 1, 1))
	r.planned(c, ok, c.Plan.Places, nil)
}

// R1: very many Places, on one node and on as many nodes, and very many Stops.
func TestPlanOfVeryMany(t *testing.T) {
	const many = 1 << 17
	r := begin(t)
	r.ok(register(node(1, 1)), submit(job(1, service, 2)))
	c := r.plan(1, at(0, 0, 1))
	one := c.Plan.Places[0]
	c.Plan.Stops = make([]int, many)
	c.Plan.Places = nil
	for i := range many {
		a := one
		a.Index = i
		if i%2 == 0 {
			a.Node = many - i
		}
		c.Plan.Places = append(c.Plan.Places, a)
	}
	r.planned(c, errPart, nil, nil)
}
