package sched_test

import (
	"math/rand"
	"slices"
	"testing"

	"coxswain/api"
	"coxswain/fsm"
	"coxswain/sched"
	"coxswain/store"
)

// counts is what was seen, so that a test that saw too little is found.
type counts struct {
	plans, places, stops, blocked, forgot, shared, waits int
}

// taken holds P14.2 of a job whose Eval is pending, and P14.3 behind it; the store behind the plan is answered.
func taken(t *testing.T, s api.Store, job int, seen *counts) api.Store {
	t.Helper()
	p := sched.Plan(s, job)
	now := s.Index + 1
	behind, result := fsm.Apply(s, api.Entry{Index: now, Term: 1, Cmd: propose(p)})
	if result.Code != ok || result.Value != now {
		t.Fatalf("P14.2: %+v is answered %+v, of %+v", p, result, s)
	}
	if behind.Next != s.Next+len(p.Places) {
		t.Fatalf("P14.2: of %+v %d were placed, of %+v", p, behind.Next-s.Next, s)
	}
	for _, a := range p.Places {
		at := store.Slot(behind, job, a.Group, a.Index)
		if at < 0 || behind.Allocs[at].ID < s.Next || behind.Allocs[at].Node != a.Node || behind.Allocs[at].State != allocNew {
			t.Fatalf("P14.2: %+v was not done: %+v", a, behind)
		}
	}
	for _, id := range p.Stops {
		if at := store.Alloc(behind, id); at < 0 || !behind.Allocs[at].Stop {
			t.Fatalf("P14.2: %d does not stop: %+v", id, behind)
		}
	}
	state := evalDone
	if p.Blocked {
		state = evalBlocked
	}
	v := behind.Evals[store.Eval(behind, job)]
	if v.State != state || v.Index != p.Index {
		t.Fatalf("P14.2: %+v behind %+v", v, p)
	}
	settled(t, behind, p)
	seen.note(s, behind, p)
	return behind
}

// settled holds P14.3: behind a plan the next one is empty, but for Blocked, and so it stays when an entry comes that does nothing.
func settled(t *testing.T, s api.Store, p api.Plan) {
	t.Helper()
	want := api.Plan{Job: p.Job, Version: p.Version, Index: p.Index, Blocked: p.Blocked}
	if got := sched.Plan(s, p.Job); !alike(got, want) {
		t.Fatalf("P14.3: %+v behind %+v, of %+v", got, p, s)
	}
	later, _ := fsm.Apply(s, api.Entry{Index: s.Index + 1, Term: 1, Cmd: api.Cmd{Op: 1}})
	if got := sched.Plan(later, p.Job); !alike(got, want) {
		t.Fatalf("P14.3: %+v behind %+v and an entry that does nothing, of %+v", got, p, later)
	}
}

func (c *counts) note(s, behind api.Store, p api.Plan) {
	c.plans++
	c.places += len(p.Places)
	c.stops += len(p.Stops)
	c.forgot += len(s.Allocs) + len(p.Places) - len(behind.Allocs)
	if p.Blocked {
		c.blocked++
	}
	if len(p.Stops) > 0 && len(p.Places) > 0 {
		c.waits++
	}
	if s.Jobs[store.Job(s, p.Job)].Type == system {
		nodes := map[int]int{}
		for _, a := range p.Places {
			nodes[a.Node]++
			c.shared += nodes[a.Node] / 2
		}
	}
}

// pending are the jobs whose Evals are pending.
func pending(s api.Store) []int {
	var out []int
	for _, v := range s.Evals {
		if v.State == evalPending {
			out = append(out, v.Job)
		}
	}
	return out
}

// P14.2, P14.3: long runs of any commands: behind each entry a plan for each job that is pending is done whole, and none is left behind it.
func TestTakenInLongRuns(t *testing.T) {
	var seen counts
	for seed := range 20 {
		w := &walker{Rand: rand.New(rand.NewSource(int64(seed)))}
		r := begin(t)
		for range 600 {
			r.apply(w.next(r.s))
			for _, job := range pending(r.s) {
				taken(t, r.s, job, &seen)
			}
		}
	}
	if seen.plans < 10000 || seen.places < 5000 || seen.stops < 1000 || seen.blocked < 1000 || seen.forgot < 500 || seen.shared < 100 || seen.waits < 100 {
		t.Errorf("saw only %+v", seen)
	}
}

// P14.2: plans of several jobs, one behind the other, each made on the store that the one ahead of it left.
func TestTakenOneBehindTheOther(t *testing.T) {
	var seen counts
	for seed := range 20 {
		w := &walker{Rand: rand.New(rand.NewSource(int64(100 + seed)))}
		r := begin(t)
		for range 400 {
			r.apply(w.next(r.s))
			jobs := pending(r.s)
			w.Shuffle(len(jobs), func(i, j int) { jobs[i], jobs[j] = jobs[j], jobs[i] })
			s := r.s
			for _, job := range jobs {
				s = taken(t, s, job, &seen)
			}
			if len(pending(s)) > 0 {
				t.Fatalf("%v are pending behind their plans: %+v", pending(s), s)
			}
			if w.Intn(10) == 0 {
				r.s = s
			}
		}
	}
	if seen.plans < 5000 || seen.places < 2000 {
		t.Errorf("saw only %+v", seen)
	}
}

// P14.2: a system job's groups that fit its node one by one, and not together: one is placed, the plan is Blocked and is done whole.
func TestTakenOfGroupsThatShareANode(t *testing.T) {
	var seen counts
	r := begin(t, register(1, 1, 100, 50), register(2, 1, 200, 50), submit(1, system, 1, group(1, 60, 5), group(1, 60, 5)))
	r.s = taken(t, r.s, 1, &seen)
	if seen.places != 3 || seen.blocked != 1 || r.eval(1).State != evalBlocked {
		t.Errorf("%+v, of %+v", seen, r.s)
	}
	r.ok(register(1, 2, 120, 50))
	r.s = taken(t, r.s, 1, &seen)
	if seen.places != 5 || seen.blocked != 1 || r.eval(1).State != evalDone {
		t.Errorf("%+v, of %+v", seen, r.s)
	}
}

// P14.2: of a store with as many allocations as may be what is over is forgotten for the Places, and the plan is done whole.
func TestTakenOfAFullStore(t *testing.T) {
	var seen counts
	r := begin(t, register(1, 1, 1000, 1000), submit(1, service, 8, group(4, 1, 1), group(4, 1, 1)))
	for range 12 {
		r.s = taken(t, r.s, 1, &seen)
		c := says(r.node(1))
		for _, a := range r.s.Allocs {
			if a.State < allocDone {
				c.Reports = append(c.Reports, api.Report{Alloc: a.ID, State: allocFailed})
			}
		}
		r.ok(c)
	}
	if seen.places != 96 || seen.forgot != 32 || len(r.s.Allocs) != maxAllocs {
		t.Errorf("%+v, and %d allocations", seen, len(r.s.Allocs))
	}
}

// P14.2: the same plan once more, and one that was made on less room, comes too late.
func TestTakenOnce(t *testing.T) {
	r := begin(t, register(1, 1, 100, 50), submit(1, service, 1, group(2, 60, 5)))
	p := sched.Plan(r.s, 1)
	if len(p.Places) != 1 || !p.Blocked || p.Index != 2 {
		t.Fatalf("%+v", p)
	}
	old := r.s
	r.ok(register(2, 1, 100, 50))
	if e := r.apply(propose(p)).Code; e != errPlan {
		t.Errorf("the plan that was made on less room is answered %v", e)
	}
	var seen counts
	r.s = taken(t, r.s, 1, &seen)
	if e := r.apply(propose(p)).Code; e != errPlan || seen.places != 2 {
		t.Errorf("once more it is answered %v, behind %+v", e, seen)
	}
	r.s = taken(t, old, 1, &seen)
	if e := r.apply(propose(p)).Code; e != errPlan || r.eval(1).State != evalBlocked {
		t.Errorf("once more it is answered %v, of %+v", e, r.s)
	}
}

// P14.3: what waits for Stops is not in the next plan; it comes when they are over, and not ahead of that.
func TestSettledTillStopsAreOver(t *testing.T) {
	var seen counts
	r := begin(t, register(1, 1, 100, 50), submit(1, batch, 1, group(2, 50, 5)))
	r.s = taken(t, r.s, 1, &seen)
	r.ok(submit(1, batch, 1, group(1, 80, 5)))
	r.s = taken(t, r.s, 1, &seen)
	if seen.stops != 2 || seen.places != 2 || !r.alloc(1).Stop || !r.alloc(2).Stop || r.eval(1).State != evalDone {
		t.Fatalf("%+v, of %+v", seen, r.s)
	}
	r.ok(says(r.node(1), api.Report{Alloc: 1, State: allocEnded}))
	r.s = taken(t, r.s, 1, &seen)
	if seen.stops != 2 || seen.places != 2 || r.eval(1).State != evalBlocked {
		t.Fatalf("%+v, of %+v", seen, r.s)
	}
	r.ok(says(r.node(1), api.Report{Alloc: 2, State: allocEnded}))
	r.s = taken(t, r.s, 1, &seen)
	if seen.stops != 2 || seen.places != 3 || r.eval(1).State != evalDone {
		t.Fatalf("%+v, of %+v", seen, r.s)
	}
}

// P14.2, P14.3: a cancelled job's plan stops all of it, and a drained node's tasks go to another one.
func TestTakenOfCancelAndDrain(t *testing.T) {
	var seen counts
	r := begin(t, register(1, 1, 100, 50), register(2, 1, 200, 90), submit(1, service, 2, group(2, 30, 5)))
	r.s = taken(t, r.s, 1, &seen)
	r.ok(drain(1, true))
	r.s = taken(t, r.s, 1, &seen)
	if seen.stops != 2 || seen.places != 2 {
		t.Fatalf("%+v, of %+v", seen, r.s)
	}
	r.ok(says(r.node(1), api.Report{Alloc: 1, State: allocEnded}, api.Report{Alloc: 2, State: allocEnded}))
	r.s = taken(t, r.s, 1, &seen)
	if r.alloc(3).Node != 2 || r.alloc(4).Node != 2 || r.alloc(4).Epoch != 1 {
		t.Fatalf("%+v, of %+v", seen, r.s)
	}
	r.ok(cancel(1))
	r.s = taken(t, r.s, 1, &seen)
	if seen.stops != 4 || seen.places != 4 || seen.blocked != 0 || !r.alloc(3).Stop || !r.alloc(4).Stop || !r.job(1).Stopped {
		t.Fatalf("%+v, of %+v", seen, r.s)
	}
}

// peace is one turn in which all that is pending is planned, and each node runs, or ends, what it has; it tells whether something was done.
func peace(t *testing.T, r *run, seen *counts) bool {
	t.Helper()
	busy := false
	for _, job := range pending(r.s) {
		busy = true
		r.s = taken(t, r.s, job, seen)
	}
	for _, n := range r.s.Nodes {
		c := says(n)
		for _, a := range r.s.Allocs {
			if a.Node == n.ID && a.State < allocDone && (a.Stop || a.State == allocNew) {
				state := allocRunning
				if a.Stop {
					state = allocEnded
				}
				c.Reports = append(c.Reports, api.Report{Alloc: a.ID, State: state})
			}
		}
		if n.Up && len(c.Reports) > 0 {
			busy = true
			r.ok(c)
		}
	}
	return busy
}

// P14.3: left in peace, each store comes to rest: all that was planned runs, and each job that is not blocked has all it wants.
func TestComesToRest(t *testing.T) {
	var seen counts
	rested := 0
	for seed := range 40 {
		w := &walker{Rand: rand.New(rand.NewSource(int64(200 + seed)))}
		r := begin(t)
		for range 60 + w.Intn(100) {
			r.apply(w.next(r.s))
		}
		turns := 0
		for peace(t, r, &seen) {
			if turns++; turns > 100 {
				t.Fatalf("it does not come to rest: %+v", r.s)
			}
		}
		for _, j := range r.s.Jobs {
			all, running := store.Slots(r.s, j.ID)
			if j.Type == service && !j.Stopped && r.eval(j.ID).State == evalDone {
				rested++
				if all != running {
					t.Fatalf("%d of %d slots of the job %d run at the end: %+v", running, all, j.ID, r.s)
				}
			}
			if slices.ContainsFunc(r.s.Allocs, func(a api.Alloc) bool { return a.Job == j.ID && a.State < allocRunning }) {
				t.Fatalf("something of the job %d is new at the end: %+v", j.ID, r.s)
			}
		}
	}
	if rested < 20 {
		t.Errorf("only %d services came to rest", rested)
	}
}
