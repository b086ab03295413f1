package life_test

import (
	"testing"

	"coxswain/api"
	"coxswain/fsm"
	"coxswain/life"
)

// The chapter's example, Tick by Tick.
func TestExample(t *testing.T) {
	h := fresh(t)
	s := api.Store{Nodes: []api.Node{{ID: 1, Up: true, Epoch: 2, Seq: 5}}}
	down := api.Cmd{Op: cmdDown, Node: api.Node{ID: 1, Epoch: 2, Seq: 5}}
	h.quiet(20, s)
	h.asks(s, down)
	h.quiet(2, s)
	h.asks(s, down)
	s.Nodes[0].Seq = 6
	h.quiet(20, s)
	down.Node.Seq = 6
	h.asks(s, down)
}

// The document's example 8: the leader gives a machine up at the 21st Tick that saw nothing new; the command is done, and nothing is asked any more, till it comes again.
func TestAMachineThatIsLeftAlone(t *testing.T) {
	l, r := life.New(), run{T: t, s: fsm.New()}
	res := api.Res{CPU: 100, Mem: 50}
	r.does(api.Cmd{Op: api.CmdRegister, Node: api.Node{ID: 1, Cap: res, Boot: 1}})
	r.does(api.Cmd{Op: api.CmdRegister, Node: api.Node{ID: 2, Cap: res, Boot: 1}})
	seq := 0
	beat := func(ids ...int) {
		seq++
		for _, id := range ids {
			r.does(api.Cmd{Op: api.CmdBeat, Node: api.Node{ID: id, Epoch: 1, Seq: seq}})
		}
	}
	tick := func() int {
		asked := l.Tick(r.s)
		for _, c := range asked {
			r.does(c)
		}
		return len(asked)
	}
	for range 100 { // the time between two beats is one less than would be too long
		beat(1, 2)
		for range tickDown {
			if tick() != 0 {
				t.Fatal("a machine is given up that beats")
			}
		}
	}
	beat(1, 2)
	for at := range 10 * tickDown {
		if at%5 == 0 {
			beat(1)
		}
		was := r.s.Nodes[1]
		if asked := tick(); (asked != 0) != (at == tickDown) {
			t.Fatalf("the Tick %d behind the first one that saw the last beat asks %d commands", at, asked)
		}
		if at == tickDown && (r.s.Nodes[1].Up || r.s.Nodes[1].Epoch != was.Epoch+1) {
			t.Fatalf("the node was %+v, and is %+v", was, r.s.Nodes[1])
		}
	}
	if !r.s.Nodes[0].Up {
		t.Error("the machine that beats is given up, too")
	}
	r.does(api.Cmd{Op: api.CmdRegister, Node: api.Node{ID: 2, Cap: res, Boot: 2}})
	for at := range tickDown + 1 {
		beat(1)
		if asked := tick(); (asked != 0) != (at == tickDown) {
			t.Fatalf("behind its return, the Tick %d asks %d commands", at, asked)
		}
	}
}

// The document's example 9: a change of which no task begins to run is reverted behind 40 Ticks, each task that does gives it as many more, and what is reverted is not asked any more.
func TestAChangeThatIsReverted(t *testing.T) {
	l, r := life.New(), run{T: t, s: fsm.New()}
	job := api.Job{ID: 1, Type: api.JobService, Priority: 50, Parallel: 1, Groups: []api.Group{{Count: 2, Ask: api.Res{CPU: 40, Mem: 5}}}}
	r.does(api.Cmd{Op: api.CmdRegister, Node: api.Node{ID: 1, Cap: api.Res{CPU: 100, Mem: 50}, Boot: 1}})
	r.does(api.Cmd{Op: api.CmdSubmit, Job: job})
	seq := 0
	ticks := func(last int) {
		t.Helper()
		for at := range last + 1 {
			seq++
			r.does(api.Cmd{Op: api.CmdBeat, Node: api.Node{ID: 1, Epoch: 1, Seq: seq}})
			asked := l.Tick(r.s)
			for _, c := range asked {
				r.does(c)
			}
			if (len(asked) != 0) != (at == tickDeadline) {
				t.Fatalf("the Tick %d asks %+v", at, asked)
			}
		}
	}
	task := api.Alloc{Job: 1, Version: 1, Node: 1, Epoch: 1, Ask: api.Res{CPU: 40, Mem: 5}}
	next := task
	next.Index = 1
	ticks(tickDeadline - 1)
	r.does(api.Cmd{Op: api.CmdPlan, Plan: api.Plan{Job: 1, Version: 1, Index: r.s.Evals[0].Index, Places: []api.Alloc{task, next}}})
	for id := 1; id <= 2; id++ {
		seq++
		r.does(api.Cmd{Op: api.CmdBeat, Node: api.Node{ID: 1, Epoch: 1, Seq: seq}, Reports: []api.Report{{Alloc: id, State: api.AllocRunning}}})
		ticks(tickDeadline - 1)
	}
	if r.s.Deploys[0].State != deployDone {
		t.Fatalf("all tasks run, and the deployment is %+v", r.s.Deploys[0])
	}
	job.Groups[0].Ask.CPU = 500
	r.does(api.Cmd{Op: api.CmdSubmit, Job: job})
	ticks(tickDeadline)
	if now := r.s.Jobs[0]; now.Version != 3 || now.Groups[0].Ask.CPU != 40 {
		t.Fatalf("the change was not reverted: the job is %+v", now)
	}
}

// run is a store to which entry by entry comes, none of which may be refused.
type run struct {
	*testing.T
	s api.Store
}

func (r *run) does(c api.Cmd) {
	r.Helper()
	s, result := fsm.Apply(r.s, api.Entry{Index: r.s.Index + 1, Cmd: c})
	if result.Code != api.OK {
		r.Fatalf("%+v is refused with %d", c, result.Code)
	}
	r.s = s
}
