package agent_test

import (
	"testing"

	"coxswain/api"
	"coxswain/disk"
	"coxswain/fsm"
	"coxswain/life"
	"coxswain/sched"
)

// The chapter's example, call by call.
func TestExample(t *testing.T) {
	m := fresh(t)
	m.next(m.registering(1, 1))
	m.takes(m.registered(1, 5))
	m.has(5)
	m.next(m.beating(2, 5, 1))
	m.takes(m.beaten(5, 1, api.Alloc{ID: 7, Node: 2, Epoch: 5}))
	m.runs(api.Alloc{ID: 7, Node: 2, Epoch: 5})
	m.next(m.beating(3, 5, 2, report(7, allocRunning)))
	m.next(m.beating(1, 5, 3, report(7, allocRunning)))
	m.silent(2) // 14
	m.runs(api.Alloc{ID: 7, Node: 2, Epoch: 5})
	m.sends(m.registering(2, 2)) // 15
	m.runs()
	m.has(0)
}

// world is a store to which machines' messages come at once, and their answers back, but those of one that is left alone.
type world struct {
	*testing.T
	s        api.Store
	machines []machine
	alone    int
}

// newWorld has a store and two machines, each with the room (100, 50).
func newWorld(t *testing.T) *world {
	w := &world{T: t, s: fsm.New()}
	for id := 1; id <= 2; id++ {
		m := starts(t, id, 3, disk.New())
		w.machines = append(w.machines, m)
	}
	return w
}

// does has an entry done: its answer.
func (w *world) does(c api.Cmd) api.Result {
	w.Helper()
	s, result := fsm.Apply(w.s, api.Entry{Index: w.s.Index + 1, Term: 1, Cmd: c})
	w.s = s
	return result
}

// ticks are so many of all machines.
func (w *world) ticks(count int) {
	w.Helper()
	for range count {
		for _, m := range w.machines {
			for _, x := range m.tick() {
				w.delivers(m, x)
			}
		}
	}
}

// delivers has a message of a machine answered, as a server does.
func (w *world) delivers(m machine, x api.Msg) {
	w.Helper()
	if m.id == w.alone {
		return
	}
	m.takes(api.Msg{Kind: msgBeaten, From: x.To, To: x.From, Ctx: x.Ctx, Cmd: api.Cmd{Op: x.Cmd.Op, Node: x.Cmd.Node}, Result: w.does(x.Cmd), Hint: 1})
}

// works has a worker place what the job 1 wants.
func (w *world) works() {
	w.Helper()
	if len(w.s.Evals) == 1 && w.s.Evals[0].State == api.EvalPending {
		w.does(api.Cmd{Op: api.CmdPlan, Plan: sched.Plan(w.s, 1)})
	}
}

// running is how many tasks run on a machine.
func (w *world) running(id int) int { return len(w.machines[id-1].Running()) }

// service is the job of the document's examples.
func service() api.Job {
	return api.Job{ID: 1, Type: api.JobService, Priority: 50, Parallel: 1, Groups: []api.Group{{Count: 2, Ask: api.Res{CPU: 40, Mem: 5}}}}
}

// The document's examples 2 and 5: a machine registers, is told its tasks by a beat, and tells the store by the next one that they run, till the deployment is done.
func TestAMachineAndAStore(t *testing.T) {
	w := newWorld(t)
	w.ticks(2)
	if len(w.s.Nodes) != 0 {
		t.Fatalf("the nodes %+v", w.s.Nodes)
	}
	w.ticks(1)
	if len(w.s.Nodes) != 2 || w.s.Nodes[0] != (api.Node{ID: 1, Cap: room(1), Up: true, Boot: 1, Epoch: 1}) {
		t.Fatalf("the nodes %+v", w.s.Nodes)
	}
	w.machines[0].has(1)
	w.machines[1].has(1)
	w.does(api.Cmd{Op: api.CmdSubmit, Job: service()})
	for range 10 {
		w.works()
		w.ticks(tickRenew)
	}
	if w.running(1)+w.running(2) != 2 || w.s.Deploys[0].State != api.DeployDone || len(w.s.Stable) != 1 || w.s.Stable[0].Version != 1 {
		t.Fatalf("there run %d and %d; the deployments %+v, stable %+v", w.running(1), w.running(2), w.s.Deploys, w.s.Stable)
	}
	for _, m := range w.machines {
		for _, x := range m.Running() {
			if x.State != allocNew {
				t.Fatalf("there runs %+v, which was told first when it was new", x)
			}
		}
	}
	w.does(api.Cmd{Op: api.CmdCancel, Job: api.Job{ID: 1}})
	for range 5 {
		w.works()
		w.ticks(tickRenew)
	}
	for _, x := range w.s.Allocs {
		if x.State != allocEnded {
			t.Fatalf("the job is cancelled, and there is %+v", x)
		}
	}
	if w.running(1)+w.running(2) != 0 {
		t.Fatalf("the job is cancelled, and there run %d and %d", w.running(1), w.running(2))
	}
}

// The document's example 8: a machine that is left alone ends its tasks at its ninth tick behind its last beat that was answered, ahead of the leader's giving it up, and of their being placed elsewhere; when it comes again it registers by another boot number, with another epoch.
func TestAMachineThatIsLeftAlone(t *testing.T) {
	w, clocks := newWorld(t), life.New()
	w.ticks(3)
	w.does(api.Cmd{Op: api.CmdSubmit, Job: service()})
	for range 10 {
		w.works()
		w.ticks(tickRenew)
	}
	w.alone = 1
	if w.running(1) == 0 {
		w.alone = 2
	}
	ran, other := w.running(w.alone), 3-w.alone
	clocks.Tick(w.s)
	for tick := 1; tick < 60; tick++ {
		w.ticks(1)
		if got := w.running(w.alone); got != 0 && tick > tickLease || got != ran && tick <= tickLease {
			t.Fatalf("at the tick %d behind its last beat %d tasks run on a machine that is left alone", tick, got)
		}
		for _, c := range clocks.Tick(w.s) {
			if tick <= tickLease {
				t.Fatalf("at the tick %d a machine is given up that runs its tasks", tick)
			}
			w.does(c)
		}
		w.works()
	}
	if w.running(other) != 2 {
		t.Fatalf("on the other machine there run %d", w.running(other))
	}
	left := w.machines[w.alone-1]
	left.has(0)
	w.alone = 0
	w.ticks(tickRenew)
	node := w.s.Nodes[left.id-1]
	if !node.Up || node.Boot != 2 || node.Epoch != 3 {
		t.Fatalf("a machine that came again is %+v", node)
	}
	left.has(3)
}

// A machine that falls and starts again on its disk is another one for the store: its tasks are lost, and placed anew; the store is told no task of its life before.
func TestAMachineThatFalls(t *testing.T) {
	w := newWorld(t)
	w.ticks(3)
	w.does(api.Cmd{Op: api.CmdSubmit, Job: service()})
	for fall := range 10 {
		for range 10 {
			w.works()
			w.ticks(tickRenew)
		}
		if w.running(1)+w.running(2) != 2 {
			t.Fatalf("ahead of the fall %d there run %d and %d", fall, w.running(1), w.running(2))
		}
		d := w.machines[0].disk
		d.Crash(fall)
		w.machines[0] = starts(t, 1, 3, d)
		w.ticks(tickRenew)
		if node := w.s.Nodes[0]; node.Boot != fall+2 || node.Epoch != fall+2 {
			t.Fatalf("behind the fall %d the node is %+v", fall, node)
		}
	}
}
