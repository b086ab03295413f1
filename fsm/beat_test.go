package fsm_test

import (
	"math"
	"slices"
	"testing"

	"coxswain/api"
)

// P11.3: CmdBeat: ErrArg, ErrNode, ErrEpoch, ErrOld, in this order.
func TestBeatRefused(t *testing.T) {
	r := begin(t)
	many := make([]api.Report, maxReports+1)
	r.refuses(beat(1, 1, 1), errNode)
	r.refuses(beat(1, 1, 0), errArg)
	r.refuses(beat(1, 1, 1, many...), errArg)
	r.ok(register(node(1, 1)), register(node(2, 1))).ok(r.says(1)).ok(r.says(1)).ok(r.says(1)).ok(r.falls(2))
	wrong := []int{0, -1, -3, maxNumber + 1, 1 << 60, math.MinInt, math.MaxInt}
	for _, id := range append([]int{3, 4, 5}, farNumbers()...) {
		for _, seq := range wrong {
			r.refuses(beat(id, 1, seq), errArg)
		}
		r.refuses(beat(id, 7, 4, many...), errArg)
		if id != 1 && id != 2 {
			r.refuses(beat(id, 1, 4), errNode)
			r.refuses(beat(id, 7, maxNumber), errNode)
		}
	}
	for _, epoch := range farNumbers() {
		if epoch != 1 {
			r.refuses(beat(1, epoch, 4), errEpoch)
			r.refuses(beat(1, epoch, 3), errEpoch)
		}
		r.refuses(beat(2, epoch, 1), errEpoch)
	}
	for _, seq := range []int{1, 2, 3} {
		r.refuses(beat(1, 1, seq), errOld)
		r.refuses(beat(1, 1, seq, running(1)), errOld)
	}
	for _, seq := range []int{4, 9, 1<<32 + 1, maxNumber - 1, maxNumber} {
		r.does(beat(1, 1, seq), value(1), func(s *api.Store) { s.Nodes[0].Seq = seq })
		r.refuses(beat(1, 1, seq), errOld)
		r.refuses(beat(1, 1, seq-1), errOld)
	}
	r.refuses(beat(1, 1, 4), errOld)
	r.refuses(beat(1, 1, maxNumber+1), errArg)
}

// P11.3: what a refused beat reports is not taken.
func TestBeatRefusedTakesNoReports(t *testing.T) {
	r := busy(t)
	n := *r.node(1)
	r.refuses(beat(1, n.Epoch, n.Seq, done(1), failed(3)), errOld)
	r.refuses(beat(1, n.Epoch+1, n.Seq+1, done(1), failed(3)), errEpoch)
	r.refuses(beat(3, n.Epoch, n.Seq+1, done(1), failed(3)), errNode)
	r.refuses(beat(1, n.Epoch, n.Seq+1, slices.Repeat([]api.Report{done(1)}, maxReports+1)...), errArg)
	r.ok(r.falls(1))
	r.refuses(beat(1, n.Epoch+1, n.Seq+1, done(1), failed(3)), errEpoch)
}

// P11.3: Epochs and Seqs go by themselves: another Epoch begins with Seq 0.
func TestBeatInAnotherEpoch(t *testing.T) {
	r := begin(t)
	r.ok(register(node(1, 1)), beat(1, 1, 9), register(node(1, 2)))
	r.refuses(beat(1, 1, 10), errEpoch)
	r.does(beat(1, 2, 1), value(2), func(s *api.Store) { s.Nodes[0].Seq = 1 })
	r.ok(r.falls(1))
	r.refuses(beat(1, 3, 2), errEpoch)
	r.ok(register(node(1, 3)))
	r.does(beat(1, 4, 2), value(4), func(s *api.Store) { s.Nodes[0].Seq = 2 })
}

// told is what a beat of the node must answer.
func (r *run) told(s *api.Store, id int) api.Result {
	out := value(nodeIn(r.t, s, id).Epoch)
	for _, a := range s.Allocs {
		if a.Node == id && a.State < allocDone {
			out.Allocs = append(out.Allocs, a)
		}
	}
	return out
}

// hears applies a node's next beat, and holds it against a change of what there was.
func (r *run) hears(id int, reports []api.Report, change func(s *api.Store)) {
	r.t.Helper()
	want := plain(r.s, false)
	want.Index++
	nodeIn(r.t, &want, id).Seq++
	if change != nil {
		change(&want)
	}
	r.does(r.says(id, reports...), r.told(&want, id), func(s *api.Store) { *s = want })
}

// P11.3: a beat answers the Epoch, and what is not over on this node, as it stands.
func TestBeatTellsAllocations(t *testing.T) {
	r := busy(t)
	answer := r.apply(r.says(1))
	if len(answer.Allocs) != 3 || answer.Allocs[0] != *r.alloc(1) || answer.Allocs[1] != *r.alloc(3) || answer.Allocs[2] != *r.alloc(6) || !answer.Allocs[2].Stop {
		t.Errorf("node 1 was told %+v", answer)
	}
	answer = r.apply(r.says(2))
	if len(answer.Allocs) != 2 || answer.Allocs[0] != *r.alloc(4) || answer.Allocs[1] != *r.alloc(7) || answer.Value != 1 || answer.Code != ok {
		t.Errorf("node 2 was told %+v", answer)
	}
	r.hears(1, nil, nil)
	r.hears(2, []api.Report{}, nil)
	r.ok(register(node(3, 1)))
	r.hears(3, nil, nil)
}

// states is each state that a report may name, and some that it may not.
func states() []int {
	return append([]int{allocNew, allocRunning, allocDone, allocFailed, allocEnded, allocLost, 7}, farNumbers()...)
}

// P11.3: reports of each State, of an allocation that is new or runs, is to Stop or not.
func TestReportsOfEachState(t *testing.T) {
	for _, from := range []int{allocNew, allocRunning} {
		for _, stop := range []bool{false, true} {
			for _, state := range states() {
				r := begin(t)
				r.ok(register(node(1, 1)), submit(job(1, batch, 2))).ok(r.plan(1, at(0, 0, 1), at(0, 1, 1)))
				if from == allocRunning {
					r.ok(r.says(1, running(1)))
				}
				if stop {
					r.ok(submit(job(1, batch, 2))).ok(r.stops(1, 1))
				}
				taken := state > from && (state <= allocFailed || state == allocEnded && stop)
				r.hears(1, []api.Report{{Alloc: 1, State: state}}, func(s *api.Store) {
					if taken {
						r.end(s, state, 1)
					}
					if taken && state >= allocDone {
						r.pending(s, 1)
					}
				})
			}
		}
	}
}

// P11.3: what is over stays as it is.
func TestReportsOfWhatIsOver(t *testing.T) {
	r := begin(t)
	r.ok(register(node(1, 1)), register(node(2, 1)), submit(job(1, service, 4))).ok(r.plan(1, at(0, 0, 1), at(0, 1, 1), at(0, 2, 1), at(0, 3, 2)))
	r.ok(r.falls(2)).ok(r.says(1, done(1), failed(2))).ok(r.stops(1, 3)).ok(register(node(2, 2)))
	r.ok(r.says(1, ended(3)))
	for i, state := range []int{allocDone, allocFailed, allocEnded, allocLost} {
		if r.s.Allocs[i].State != state {
			t.Fatalf("%+v", r.s.Allocs)
		}
	}
	for id := 1; id <= 4; id++ {
		for _, state := range states() {
			r.hears(1, []api.Report{{Alloc: id, State: state}}, nil)
			r.hears(2, []api.Report{{Alloc: id, State: state}}, nil)
		}
	}
}

// P11.3: reports of allocations of another node, of none, or of another Epoch than the node's are passed over; those behind them are taken.
func TestReportsOfOtherAllocations(t *testing.T) {
	r := busy(t)
	for _, id := range append([]int{4, 7, 8, 9, 64}, farNumbers()...) {
		if id == 1 || id == 2 {
			continue
		}
		r.hears(1, []api.Report{{Alloc: id, State: allocDone}, {Alloc: id, State: allocRunning}}, nil)
	}
	r.hears(2, []api.Report{done(1), failed(3), ended(6), done(6)}, nil)
	r.hears(1, []api.Report{done(4), done(77), failed(3), done(-1)}, func(s *api.Store) {
		r.end(s, allocFailed, 3)
		r.pending(s, 3)
	})
	for _, epoch := range []int{0, 2, -1, math.MaxInt} {
		r.byHand(func(s *api.Store) { s.Allocs[0].Epoch = epoch })
		r.hears(1, []api.Report{done(1), failed(1)}, nil)
	}
}

// P11.3: each report in turn: what an earlier one made of it counts for a later one.
func TestReportsInTurn(t *testing.T) {
	for _, x := range []struct {
		states []int
		is     int
	}{
		{[]int{allocRunning, allocRunning}, allocRunning},
		{[]int{allocRunning, allocDone}, allocDone},
		{[]int{allocRunning, allocFailed, allocDone}, allocFailed},
		{[]int{allocDone, allocFailed}, allocDone},
		{[]int{allocDone, allocRunning}, allocDone},
		{[]int{allocEnded, allocDone}, allocDone},
		{[]int{allocLost, allocRunning, allocNew}, allocRunning},
	} {
		r := begin(t)
		r.ok(register(node(1, 1)), submit(job(1, batch, 1))).ok(r.plan(1, at(0, 0, 1)))
		var reports []api.Report
		for _, state := range x.states {
			reports = append(reports, api.Report{Alloc: 1, State: state})
		}
		r.hears(1, reports, func(s *api.Store) {
			r.end(s, x.is, 1)
			if x.is >= allocDone {
				r.pending(s, 1)
			}
		})
	}
}

// P11.3: MaxReports reports are all taken, the last one too; one more is ErrArg.
func TestBeatOfMaxReports(t *testing.T) {
	r := busy(t)
	reports := slices.Repeat([]api.Report{{Alloc: 77, State: allocDone}}, maxReports-1)
	reports = append(reports, done(3))
	r.refuses(r.says(1, append(reports, done(1))...), errArg)
	r.hears(1, reports, func(s *api.Store) {
		r.end(s, allocDone, 3)
		r.pending(s, 3)
	})
}

// P11.3: what is over by a report brings room, and its job is to be evaluated; what runs does neither, of a job that is no service.
func TestReportsBringRoom(t *testing.T) {
	for _, state := range []int{allocRunning, allocDone, allocFailed, allocEnded} {
		r := busy(t)
		r.ok(submit(job(5, service, 1)), submit(job(6, batch, 1)))
		r.block(5)
		over := state != allocRunning
		r.hears(1, []api.Report{{Alloc: 6, State: state}}, func(s *api.Store) {
			r.end(s, state, 6)
			if over {
				r.pending(s, 4, 5, 6)
			}
		})
		r.hears(2, []api.Report{{Alloc: 7, State: min(state, allocFailed)}}, func(s *api.Store) {
			r.end(s, min(state, allocFailed), 7)
			if over {
				r.pending(s, 2, 4, 5, 6)
			}
		})
	}
}

// P11.3: a service's allocation that begins to run has it evaluated, brings no room, and sets its running Deploy's Index, if that is of its Version; one that runs already does nothing.
func TestReportsOfAServiceThatRuns(t *testing.T) {
	r := busy(t)
	r.ok(submit(job(6, batch, 1)), submit(job(1, service, 3))).ok(r.plan(1, at(0, 2, 2)))
	r.block(6)
	r.hears(2, []api.Report{running(8)}, func(s *api.Store) {
		r.end(s, allocRunning, 8)
		r.pending(s, 1)
		deployIn(t, s, 1).Index = s.Index
	})
	r.ok(r.plan(1))
	r.hears(2, []api.Report{running(8), running(4)}, nil)
}

// P11.3: an allocation of an older Version that begins to run has its service evaluated, and leaves the Deploy; so with a Deploy that is not running.
func TestReportsOfAnOlderVersion(t *testing.T) {
	r := begin(t)
	r.ok(register(node(1, 1)), submit(job(1, service, 2))).ok(r.plan(1, at(0, 0, 1), at(0, 1, 1))).ok(submit(job(1, service, 2))).ok(r.plan(1))
	r.hears(1, []api.Report{running(1)}, func(s *api.Store) {
		r.end(s, allocRunning, 1)
		r.pending(s, 1)
	})
	r.ok(cancel(1)).ok(r.plan(1))
	r.hears(1, []api.Report{running(2)}, func(s *api.Store) {
		r.end(s, allocRunning, 2)
		r.pending(s, 1)
	})
	r = begin(t)
	r.ok(register(node(1, 1)), submit(job(1, service, 2))).ok(r.plan(1, at(0, 0, 1), at(0, 1, 1))).ok(cancel(1)).ok(r.plan(1))
	r.hears(1, []api.Report{running(1), running(2)}, func(s *api.Store) {
		r.end(s, allocRunning, 1, 2)
		r.pending(s, 1)
	})
	if r.deploy(1).State != deployFailed || len(r.s.Stable) != 0 {
		t.Errorf("%+v", r.s)
	}
}

// P11.3: a deployment is done with the last of its slots that runs, in one beat or several, of several nodes; Stable is the job as it is then.
func TestDeploymentsAreLookedAt(t *testing.T) {
	r := begin(t)
	r.ok(register(node(1, 1)), register(node(2, 1)), submit(job(1, service, 2, 1))).ok(r.plan(1, at(0, 0, 1), at(0, 1, 2), at(1, 0, 1)))
	for i, id := range []int{1, 2} {
		r.hears(1, []api.Report{running(id)}, func(s *api.Store) {
			r.end(s, allocRunning, id)
			r.pending(s, 1)
			s.Deploys[0].Index = s.Index
		})
		if r.deploy(1).State != deployRunning || len(r.s.Stable) != 0 {
			t.Fatalf("%d: %+v", i, r.s)
		}
	}
	r.hears(2, []api.Report{running(3)}, func(s *api.Store) {
		r.end(s, allocRunning, 3)
		r.pending(s, 1)
		s.Deploys[0] = api.Deploy{Job: 1, Version: 1, State: deployDone, Index: s.Index}
		s.Stable = []api.Job{s.Jobs[0]}
	})
	r.ok(submit(job(1, service, 2)))
	r.hears(1, nil, nil)
	r.ok(r.stops(1, 1, 2, 3)).ok(r.says(1, ended(1), ended(2))).ok(r.says(2, ended(3))).ok(r.plan(1, at(0, 0, 2), at(0, 1, 2)))
	r.hears(2, []api.Report{running(4), running(5)}, func(s *api.Store) {
		r.end(s, allocRunning, 4, 5)
		r.pending(s, 1)
		s.Deploys[0] = api.Deploy{Job: 1, Version: 2, State: deployDone, Index: s.Index}
		s.Stable = []api.Job{s.Jobs[0]}
	})
}

// P11.3: one that is to Stop does not count as running for its deployment; nor one that is done.
func TestDeploymentsOfWhatDoesNotRun(t *testing.T) {
	r := begin(t)
	r.ok(register(node(1, 1)), submit(job(1, service, 2))).ok(r.plan(1, at(0, 0, 1), at(0, 1, 1))).ok(r.says(1, running(1)))
	r.ok(r.stops(1, 1))
	r.hears(1, []api.Report{running(2)}, func(s *api.Store) {
		r.end(s, allocRunning, 2)
		r.pending(s, 1)
		s.Deploys[0].Index = s.Index
	})
	r.ok(r.says(1, ended(1))).ok(r.plan(1, at(0, 0, 1)))
	r.hears(1, []api.Report{done(3)}, func(s *api.Store) {
		r.end(s, allocDone, 3)
		r.pending(s, 1)
	})
	if r.deploy(1).State != deployRunning {
		t.Errorf("%+v", r.s)
	}
}

// P11.3: several deployments are done by one beat, and Stable rises.
func TestSeveralDeploymentsAreDone(t *testing.T) {
	r := begin(t)
	r.ok(register(node(1, 1)))
	for _, id := range []int{5, 2, 4, 3} {
		r.ok(submit(job(id, service, 1))).ok(r.plan(id, at(0, 0, 1)))
	}
	r.hears(1, []api.Report{running(1), running(4), running(2)}, func(s *api.Store) {
		r.end(s, allocRunning, 1, 2, 4)
		r.pending(s, 2, 3, 5)
		for _, id := range []int{2, 3, 5} {
			d := deployIn(t, s, id)
			d.State, d.Index = deployDone, s.Index
			s.Stable = append(s.Stable, *jobIn(t, s, id))
		}
	})
	r.hears(1, []api.Report{running(3)}, func(s *api.Store) {
		r.end(s, allocRunning, 3)
		r.pending(s, 4)
		d := deployIn(t, s, 4)
		d.State, d.Index = deployDone, s.Index
		s.Stable = plain(*s, false).Jobs
	})
}
