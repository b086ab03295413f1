package fsm_test

import (
	"testing"

	"coxswain/api"
	"coxswain/fsm"
)

// P11.1: the empty store with Next 1, each time anew.
func TestNew(t *testing.T) {
	if got := fsm.New(); !alike(got, api.Store{Next: 1}) {
		t.Errorf("New: %+v", got)
	}
	a := fsm.New()
	a.Index, a.Next, a.Jobs = 7, 7, append(a.Jobs, api.Job{ID: 7})
	b, c := fsm.New(), fsm.New()
	if !alike(b, api.Store{Next: 1}) {
		t.Errorf("New, once more: %+v", b)
	}
	apart(t, a, b, c)
}

// The chapter's examples, entry by entry, with all that there is behind each.
func TestExamples(t *testing.T) {
	r := begin(t)
	wish := api.Job{ID: 1, Type: service, Priority: 50, Parallel: 1, Groups: []api.Group{{Count: 2, Ask: res(40, 5)}}}
	r.does(register(api.Node{ID: 1, Cap: res(100, 50), Boot: 1}), value(1), func(s *api.Store) {
		s.Nodes = []api.Node{{ID: 1, Cap: res(100, 50), Up: true, Boot: 1, Epoch: 1}}
	})
	r.does(by(1, 1, submit(wish)), value(1), func(s *api.Store) {
		is := wish
		is.Version = 1
		s.Jobs = []api.Job{is}
		s.Evals = []api.Eval{{Job: 1, Priority: 50, State: evalPending, Index: 2}}
		s.Deploys = []api.Deploy{{Job: 1, Version: 1, State: deployRunning, Index: 2}}
		s.Seen = []api.Seen{{Client: 1, Req: 1, Answer: value(1)}}
	})
	r.does(by(1, 1, submit(wish)), value(1), nil)
	one := api.Alloc{Job: 1, Version: 1, Node: 1, Epoch: 1, Ask: res(40, 5)}
	two := one
	two.Index = 1
	places := []api.Alloc{one, two}
	one.ID, one.State = 1, allocNew
	two.ID, two.State = 2, allocNew
	r.does(api.Cmd{Op: cmdPlan, Plan: api.Plan{Job: 1, Version: 1, Index: 2, Places: places}}, value(4), func(s *api.Store) {
		s.Allocs, s.Next = []api.Alloc{one, two}, 3
		s.Evals[0].State = evalDone
	})
	one.State, two.State = allocRunning, allocRunning
	told := api.Result{Value: 1, Allocs: []api.Alloc{one, two}}
	r.does(beat(1, 1, 1, api.Report{Alloc: 1, State: allocRunning}, api.Report{Alloc: 2, State: allocRunning}), told, func(s *api.Store) {
		s.Allocs = []api.Alloc{one, two}
		s.Nodes[0].Seq = 1
		s.Stable = s.Jobs
		s.Deploys = []api.Deploy{{Job: 1, Version: 1, State: deployDone, Index: 5}}
		s.Evals = []api.Eval{{Job: 1, Priority: 50, State: evalPending, Index: 5}}
	})
	r.refuses(down(1, 1, 0), errOld)
	r.does(down(1, 1, 1), code(ok), func(s *api.Store) {
		s.Allocs[0].State, s.Allocs[1].State = allocLost, allocLost
		s.Nodes[0].Up, s.Nodes[0].Epoch = false, 2
		s.Evals[0].Index = 7
	})
	if r.s.Index != 7 {
		t.Errorf("the Index is %d", r.s.Index)
	}
}

// P11.3: each Op: two do nothing, one that is not named is refused, whatever stands beside it.
func TestOps(t *testing.T) {
	r := begin(t)
	r.ok(register(node(1, 1)), submit(job(1, service, 1)), submit(job(2, system, 1)))
	beside := api.Cmd{Client: 9, Req: -1, Job: job(3, service, 1), Node: node(2, 1), Reports: make([]api.Report, 100), Plan: r.plan(1, at(0, 0, 1)).Plan, Conf: api.Conf{Voters: []int{1, 2, 3}, Learners: []int{4}}}
	with := func(op int) api.Cmd {
		c := beside
		c.Op = op
		return c
	}
	for _, op := range []int{cmdNop, cmdConf} {
		r.does(api.Cmd{Op: op}, code(ok), nil)
		r.does(with(op), code(ok), nil)
	}
	for _, op := range append([]int{-10, -3, -1, 0, 11, 12, 13, 99, 259, 264}, farNumbers()...) {
		if op >= cmdNop && op <= cmdRevert {
			continue
		}
		r.refuses(api.Cmd{Op: op}, errOp)
		r.refuses(with(op), errOp)
		r.refuses(by(1, 1, with(op)), errOp)
	}
}

// The answer's Index is the entry's, whatever that is, and whatever the Term.
func TestIndexAndTerm(t *testing.T) {
	for _, index := range farNumbers() {
		for _, term := range []int{0, 1, 77, -1, index} {
			s, answer := fsm.Apply(fsm.New(), api.Entry{Index: index, Term: term, Cmd: submit(job(1, service, 1))})
			if !alike(answer, value(1)) || s.Index != index || s.Evals[0].Index != index || s.Deploys[0].Index != index {
				t.Errorf("%d, %d: %+v, %+v", index, term, s, answer)
			}
			s, answer = fsm.Apply(fsm.New(), api.Entry{Index: index, Term: term, Cmd: api.Cmd{Op: 77}})
			if !alike(answer, code(errOp)) || !alike(s, api.Store{Index: index, Next: 1}) {
				t.Errorf("%d, %d: %+v, %+v", index, term, s, answer)
			}
		}
	}
}
