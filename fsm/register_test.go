package fsm_test

import (
	"math"
	"testing"

	"coxswain/api"
)

// busy is a run with the nodes 1 and 2 and allocations of all kinds on both, of the service 1, the batch job 2 and the system jobs 3 and 4, of which 4 is Stopped; the service 5 has no allocation, nor the batch job 6. All evaluations are done.
//
//	1: service, node 1, running    2: batch, node 1, done        3: system, node 1, new
//	4: service, node 2, running    5: batch, node 1, failed      6: stopped system, node 1, to Stop
//	7: batch, node 2, new
func busy(t testing.TB) *run {
	r := begin(t)
	r.ok(register(node(2, 1)), register(node(1, 1)))
	r.ok(submit(job(1, service, 2)), submit(job(2, batch, 3)), submit(job(3, system, 1)), submit(job(4, system, 1)), submit(job(5, service, 1)), submit(job(6, batch, 1)))
	r.ok(r.plan(1, at(0, 0, 1))).ok(r.plan(2, at(0, 0, 1))).ok(r.plan(3, at(0, 1, 1)))
	r.ok(r.says(1, running(1), running(2)))
	r.ok(r.plan(1, at(0, 1, 2))).ok(r.says(2, running(4))).ok(r.says(1, done(2)))
	r.ok(r.plan(2, at(0, 1, 1))).ok(r.says(1, failed(5)))
	r.ok(r.plan(4, at(0, 1, 1))).ok(r.plan(2, at(0, 2, 2))).ok(cancel(4))
	r.ok(r.stops(4, 6))
	for id := 1; id <= 6; id++ {
		if r.eval(id).State == evalPending {
			r.ok(r.plan(id))
		}
	}
	want := [][2]int{{1, allocRunning}, {1, allocDone}, {1, allocNew}, {2, allocRunning}, {1, allocFailed}, {1, allocNew}, {2, allocNew}}
	for i, a := range r.s.Allocs {
		if a.Node != want[i][0] || a.State != want[i][1] || a.Stop != (a.ID == 6) {
			t.Fatalf("%+v", r.s.Allocs)
		}
	}
	return r
}

func running(id int) api.Report { return api.Report{Alloc: id, State: allocRunning} }
func done(id int) api.Report    { return api.Report{Alloc: id, State: allocDone} }
func failed(id int) api.Report  { return api.Report{Alloc: id, State: allocFailed} }
func ended(id int) api.Report   { return api.Report{Alloc: id, State: allocEnded} }

// P11.3: new nodes: Epoch 1, Up, not Drain, Seq 0, whatever of these is handed in; Nodes rise.
func TestRegisterNewNodes(t *testing.T) {
	r := begin(t)
	for _, id := range []int{3, 1, 4, 2} {
		c := api.Node{ID: id, Cap: res(id, 100*id), Boot: 5 * id, Drain: true, Epoch: 7, Seq: 8}
		r.does(register(c), value(1), func(s *api.Store) {
			m := modelOf(*s)
			m.nodes[id] = api.Node{ID: id, Cap: res(id, 100*id), Up: true, Boot: 5 * id, Epoch: 1}
			*s = m.store()
		})
	}
}

// P11.3: spec.Node's error, ahead of all else.
func TestRegisterOfNodesThatMayNotBe(t *testing.T) {
	r := begin(t)
	r.ok(register(node(1, 5)))
	for _, n := range []api.Node{
		{}, node(0, 1), node(5, 1), node(-1, 1), node(maxNumber, 1), node(math.MinInt, 1), node(math.MaxInt, 1), node(1<<32+1, 1),
		node(2, 0), node(2, -1), node(2, maxNumber+1), node(1, 0), node(1, maxNumber+1), node(1, math.MaxInt), node(1, math.MinInt),
		{ID: 2, Cap: res(-1, 0), Boot: 1}, {ID: 2, Cap: res(0, -1), Boot: 1}, {ID: 1, Cap: res(1<<40+1, 0), Boot: 5}, {ID: 1, Cap: res(0, 1<<40+1), Boot: 4},
	} {
		r.refuses(register(n), errNode)
	}
	r.ok(register(api.Node{ID: 2, Cap: res(0, 1<<40), Boot: maxNumber}))
	r.ok(register(api.Node{ID: 1, Cap: res(1<<40, 0), Boot: maxNumber}))
}

// P11.3: with a lesser Boot ErrOld; with the same: nothing and its Epoch if it is Up, else ErrOld.
func TestRegisterOfNoGreaterBoot(t *testing.T) {
	r := busy(t)
	r.ok(register(node(3, 7)), drain(3, true)).ok(r.says(3))
	other := api.Node{ID: 3, Cap: res(1, 1), Boot: 7, Epoch: 9, Seq: 9}
	r.does(register(other), value(1), nil)
	for _, boot := range []int{1, 2, 6} {
		other.Boot = boot
		r.refuses(register(other), errOld)
	}
	r.ok(r.falls(3))
	for boot := 1; boot <= 7; boot++ {
		other.Boot = boot
		r.refuses(register(other), errOld)
	}
	r.does(register(node(1, 1)), value(1), nil)
	r.ok(register(node(3, 8)))
	r.does(register(node(3, 8)), value(3), nil)
	r.refuses(register(node(3, 7)), errOld)
}

// P11.3: with a greater Boot a node begins anew, Up or not, and Drain stays.
func TestRegisterOfAGreaterBoot(t *testing.T) {
	for _, up := range []bool{true, false} {
		for _, draining := range []bool{true, false} {
			r := begin(t)
			r.ok(register(node(2, 1)), register(node(1, 3)), drain(1, draining)).ok(r.says(1))
			epoch := 2
			if !up {
				r.ok(r.falls(1))
				epoch = 3
			}
			for _, boot := range []int{4, 9, maxNumber} {
				r.does(register(api.Node{ID: 1, Cap: res(7, boot), Boot: boot, Drain: !draining, Epoch: 77, Seq: 5}), value(epoch), func(s *api.Store) {
					s.Nodes[0] = api.Node{ID: 1, Cap: res(7, boot), Up: true, Drain: draining, Boot: boot, Epoch: epoch}
				})
				epoch++
			}
		}
	}
}

// P11.3: what is not over on the node is lost, over, and its jobs (Stopped ones too) are to be evaluated; so are system jobs that are not Stopped.
func TestRegisterWithAllocations(t *testing.T) {
	r := busy(t)
	r.does(register(node(1, 2)), value(2), func(s *api.Store) {
		s.Nodes[0] = api.Node{ID: 1, Cap: res(100, 50), Up: true, Boot: 2, Epoch: 2}
		r.end(s, allocLost, 1, 3, 6)
		r.pending(s, 1, 3, 4)
	})
	r.ok(r.plan(1)).ok(r.plan(3)).ok(r.plan(4))
	r.does(register(node(2, 9)), value(2), func(s *api.Store) {
		s.Nodes[1] = api.Node{ID: 2, Cap: res(100, 50), Up: true, Boot: 9, Epoch: 2}
		r.end(s, allocLost, 4, 7)
		r.pending(s, 1, 2, 3)
	})
	r.ok(r.plan(1)).ok(r.plan(2)).ok(r.plan(3))
	r.does(register(node(4, 1)), value(1), func(s *api.Store) {
		s.Nodes = append(s.Nodes, api.Node{ID: 4, Cap: res(100, 50), Up: true, Boot: 1, Epoch: 1})
		r.pending(s, 3)
	})
}

// P11.3: a node brings room: what is blocked or pending is pending as of now, what is done stays.
func TestRegisterBringsRoom(t *testing.T) {
	for _, n := range []api.Node{node(3, 1), node(1, 2)} {
		r := begin(t)
		r.ok(register(node(1, 1)))
		for id := 1; id <= 5; id++ {
			r.ok(submit(job(id, 1+id%2, 1)))
		}
		r.block(1)
		r.block(4)
		r.ok(r.plan(2))
		was := r.plan(3, at(0, 0, 1))
		r.does(register(n), value(n.Boot), func(s *api.Store) {
			m := modelOf(*s)
			m.nodes[n.ID] = api.Node{ID: n.ID, Cap: n.Cap, Up: true, Boot: n.Boot, Epoch: n.Boot}
			*s = m.store()
			r.pending(s, 1, 3, 4, 5)
		})
		r.refuses(was, errPlan)
	}
}

// P11.3: a Priority that the job has by now is that of its evaluation.
func TestEvaluationsHaveTheJobsPriority(t *testing.T) {
	r := begin(t)
	for _, priority := range []int{1, 100, 7} {
		j := job(3, system, 1)
		j.Priority = priority
		r.ok(submit(j)).ok(register(node(1, priority+r.s.Index*100)))
		if v := *r.eval(3); v != (api.Eval{Job: 3, Priority: priority, State: evalPending, Index: r.s.Index}) {
			t.Errorf("%+v", v)
		}
	}
}

// P11.3: CmdDown: the node is given up, its Epoch one more, what is not over there is lost; all else of it stays, and no room comes.
func TestDown(t *testing.T) {
	r := busy(t)
	r.ok(submit(job(5, service, 1)), submit(job(6, batch, 1)), drain(2, true), drain(2, false))
	r.block(5)
	for _, id := range []int{1, 2, 3} {
		if r.eval(id).State == evalPending {
			r.ok(r.plan(id))
		}
	}
	seq := r.node(1).Seq
	r.does(down(1, 1, seq), code(ok), func(s *api.Store) {
		s.Nodes[0].Up, s.Nodes[0].Epoch = false, 2
		r.end(s, allocLost, 1, 3, 6)
		r.pending(s, 1, 3, 4)
	})
	if r.eval(5).State != evalBlocked || r.eval(6).State != evalPending || r.eval(6).Index == r.s.Index || r.node(1).Seq != seq {
		t.Errorf("%+v", r.s)
	}
	r.ok(r.plan(1)).ok(r.plan(3)).ok(r.plan(4)).ok(drain(2, true))
	for _, id := range []int{1, 2, 3} {
		if r.eval(id).State == evalPending {
			r.ok(r.plan(id))
		}
	}
	r.does(r.falls(2), code(ok), func(s *api.Store) {
		s.Nodes[1].Up, s.Nodes[1].Epoch = false, 2
		r.end(s, allocLost, 4, 7)
		r.pending(s, 1, 2, 3)
	})
}

// P11.3: CmdDown: ErrNode, ErrEpoch, then ErrOld of any other Seq; 0 is one, if no beat came.
func TestDownRefused(t *testing.T) {
	r := begin(t)
	r.refuses(down(1, 1, 0), errNode)
	r.ok(register(node(1, 1)), register(node(2, 1))).ok(r.says(1)).ok(r.says(1)).ok(r.says(1))
	for _, id := range append([]int{3, 4, 5}, farNumbers()...) {
		if id != 1 && id != 2 {
			r.refuses(down(id, 1, 3), errNode)
			r.refuses(down(id, id, id), errNode)
		}
	}
	for _, epoch := range farNumbers() {
		if epoch != 1 {
			r.refuses(down(1, epoch, 3), errEpoch)
			r.refuses(down(1, epoch, 4), errEpoch)
		}
	}
	for _, seq := range append([]int{4, 5, 1<<32 + 3}, farNumbers()...) {
		r.refuses(down(1, 1, seq), errOld)
	}
	r.ok(down(1, 1, 3), down(2, 1, 0))
	for _, epoch := range []int{1, 2, 3} {
		r.refuses(down(1, epoch, 3), errEpoch)
		r.refuses(down(1, epoch, 4), errEpoch)
		r.refuses(down(2, epoch, 0), errEpoch)
	}
	r.ok(register(node(1, 2)))
	r.refuses(down(1, 1, 0), errEpoch)
	r.refuses(down(1, 2, 0), errEpoch)
	r.refuses(down(1, 3, 3), errOld)
	r.ok(down(1, 3, 0))
}

// P11.3: CmdDown looks at no other field of the node, nor at reports.
func TestDownOfOtherFields(t *testing.T) {
	r := begin(t)
	r.ok(register(node(1, 1)))
	c := down(1, 1, 0)
	c.Node.Cap, c.Node.Boot, c.Node.Up, c.Node.Drain, c.Reports = res(-1, math.MaxInt), -1, true, true, make([]api.Report, 100)
	r.does(c, code(ok), func(s *api.Store) {
		s.Nodes[0].Up, s.Nodes[0].Epoch = false, 2
	})
}

// P11.3: CmdDrain: the jobs of what is not over there are to be evaluated, and system jobs that are not Stopped, both ways; room comes only if it is drained no more.
func TestDrain(t *testing.T) {
	r := busy(t)
	r.ok(submit(job(5, service, 1)), submit(job(6, batch, 1)))
	r.block(5)
	settle := func() {
		for _, id := range []int{1, 2, 3, 4} {
			if r.eval(id).State == evalPending {
				r.ok(r.plan(id))
			}
		}
	}
	for range 2 {
		r.does(drain(1, true), code(ok), func(s *api.Store) {
			s.Nodes[0].Drain = true
			r.pending(s, 1, 3, 4)
		})
		settle()
	}
	r.does(drain(2, true), code(ok), func(s *api.Store) {
		s.Nodes[1].Drain = true
		r.pending(s, 1, 2, 3)
	})
	settle()
	r.does(drain(2, false), code(ok), func(s *api.Store) {
		s.Nodes[1].Drain = false
		r.pending(s, 1, 2, 3, 5, 6)
	})
	settle()
	r.block(5)
	r.does(drain(1, false), code(ok), func(s *api.Store) {
		s.Nodes[0].Drain = false
		r.pending(s, 1, 3, 4, 5, 6)
	})
	settle()
	r.block(6)
	r.does(drain(1, false), code(ok), func(s *api.Store) { r.pending(s, 1, 3, 4, 5, 6) })
}

// P11.3: a node that is not Up, or has nothing, may be drained; system jobs alone are to be evaluated then.
func TestDrainOfANodeWithNothing(t *testing.T) {
	r := begin(t)
	r.ok(submit(job(1, system, 1)), submit(job(2, system, 1)), submit(job(3, service, 1)), register(node(1, 1)), register(node(2, 1))).ok(r.falls(2)).ok(cancel(2))
	for id := 1; id <= 3; id++ {
		r.ok(r.plan(id))
	}
	for _, id := range []int{1, 2} {
		for _, on := range []bool{true, false, true} {
			r.does(drain(id, on), code(ok), func(s *api.Store) {
				s.Nodes[id-1].Drain = on
				r.pending(s, 1)
			})
			r.ok(r.plan(1))
		}
	}
	c := drain(1, false)
	c.Node.Cap, c.Node.Boot, c.Node.Epoch, c.Node.Seq, c.Node.Up = res(-1, -1), -1, 77, -1, false
	r.does(c, code(ok), func(s *api.Store) {
		s.Nodes[0].Drain = false
		r.pending(s, 1)
	})
}

// P11.3: ErrNode of a node that there is not.
func TestDrainOfNoNode(t *testing.T) {
	r := begin(t)
	r.refuses(drain(1, true), errNode)
	r.ok(register(node(2, 1)))
	for _, id := range append([]int{3, 4, 5}, farNumbers()...) {
		if id != 2 {
			r.refuses(drain(id, true), errNode)
			r.refuses(drain(id, false), errNode)
		}
	}
}
