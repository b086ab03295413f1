package life_test

import (
	"testing"

	"coxswain/api"
)

// P16.2: a clock begins with 0, and asks when it has come to its end, at no Tick ahead of that, and at that one; then each third Tick. The numbers are written out.
func TestTheEnds(t *testing.T) {
	for _, x := range []struct {
		end  int
		s    api.Store
		want api.Cmd
	}{
		{20, api.Store{Nodes: []api.Node{{ID: 3, Up: true, Epoch: 4, Seq: 7}}}, api.Cmd{Op: cmdDown, Node: api.Node{ID: 3, Epoch: 4, Seq: 7}}},
		{40, api.Store{Deploys: []api.Deploy{{Job: 3, Version: 4, State: deployRunning, Index: 7}}}, api.Cmd{Op: cmdRevert, Job: api.Job{ID: 3, Version: 4}}},
	} {
		h := fresh(t)
		h.quiet(x.end-1, x.s)
		h.quiet(1, x.s)
		h.asks(x.s, x.want)
		h.quiet(1, x.s)
		h.quiet(1, x.s)
		h.asks(x.s, x.want)
		h.quiet(2, x.s)
		h.asks(x.s, x.want)
	}
}

// P16.2: as long as nothing changes it is asked each third Tick, not one sooner or later, and no less often the longer it lasts.
func TestAskedAgainAndAgain(t *testing.T) {
	onBothSides(t, func(h hand, d side) {
		x := thing{2, 5, 9}
		s := d.store(x)
		h.quiet(d.end, s)
		for range 2000 {
			h.asks(s, d.cmd(x))
			h.quiet(tickRenew-1, s)
		}
	})
}

// P16.2: several have each its own clock, that begins when it comes.
func TestEachHasItsOwnClock(t *testing.T) {
	onBothSides(t, func(h hand, d side) {
		a, b, c := thing{4, 1, 1}, thing{3, 1, 1}, thing{2, 1, 1}
		for later := range d.end + 8 {
			h.anew().arrive(d, 3*d.end, []thing{a, b}, 0, later)
			h.anew().arrive(d, 3*d.end, []thing{a, b}, later, 0)
			h.anew().arrive(d, 4*d.end, []thing{a, b, c}, later, 0, 2*later)
		}
	})
}

// P16.2: nodes and deployments with the same numbers have two clocks, each with its own end.
func TestANodeAndADeploymentOfTheSameNumbers(t *testing.T) {
	n, d := nodes(), deploys()
	for _, x := range []thing{{}, {1, 1, 1}, {2, 5, 9}, {-1, -1, -1}} {
		h := fresh(t)
		s := both(n.store(x), d.store(x))
		for age := range 3 * tickDeadline {
			var want []api.Cmd
			if n.due(age) {
				want = append(want, n.cmd(x))
			}
			if d.due(age) {
				want = append(want, d.cmd(x))
			}
			h.asks(s, want...)
		}
		h = h.anew()
		h.ages(n, 0, 15, x)
		h.begins(d, x)
		h.begins(n, x)
	}
}

// P16.2: there is no clock of a node that is not Up, nor of a deployment that is not running, however long it stands there; and none of what stands elsewhere in the store.
func TestWithoutAClock(t *testing.T) {
	onBothSides(t, func(h hand, d side) {
		x := thing{2, 5, 9}
		h.quiet(5*d.end, d.resting(x))
		h.begins(d, x)
	})
	for _, state := range append(farNumbers(), 2, 3, 4) {
		if state == deployRunning {
			continue
		}
		h := fresh(t)
		h.quiet(3*tickDeadline, api.Store{Deploys: []api.Deploy{{Job: 2, Version: 5, State: state, Index: 9}}})
		h.begins(deploys(), thing{2, 5, 9})
	}
	fresh(t).quiet(3*tickDeadline, api.Store{
		Index:  99,
		Next:   7,
		Jobs:   []api.Job{{ID: 2, Type: api.JobService, Priority: 100, Version: 3}},
		Stable: []api.Job{{ID: 2, Version: 1}},
		Allocs: []api.Alloc{{ID: 1, Job: 2, Version: 1, Node: 1, Epoch: 1, State: api.AllocRunning}},
		Evals:  []api.Eval{{Job: 2, State: api.EvalPending, Index: 1}},
		Seen:   []api.Seen{{Client: 1, Req: 2}},
	})
}

// P16.2: of a node only ID, Epoch and Seq count, and that it is Up: its clock goes on whatever else of it changes, and only these three are told (R3).
func TestWhatElseStandsInANode(t *testing.T) {
	h := fresh(t)
	want := api.Cmd{Op: cmdDown, Node: api.Node{ID: 1, Epoch: 2, Seq: 5}}
	for age := range 200 {
		s := api.Store{
			Index: age,
			Nodes: []api.Node{{ID: 1, Cap: api.Res{CPU: age, Mem: -age}, Up: true, Drain: age%3 == 0, Boot: 1 + age, Epoch: 2, Seq: 5}},
			Jobs:  []api.Job{{ID: 1, Version: age}},
		}
		if nodes().due(age) {
			h.asks(s, want)
		} else {
			h.quiet(1, s)
		}
	}
}

// P16.2: what CmdRevert tells is the deployment's Job and Version alone, whatever job there is.
func TestWhatElseStandsBesideADeployment(t *testing.T) {
	h := fresh(t)
	s := api.Store{
		Jobs:    []api.Job{{ID: 3, Type: api.JobService, Priority: 9, Parallel: 2, Groups: []api.Group{{Count: 1}}, Version: 5, Stopped: true}},
		Stable:  []api.Job{{ID: 3, Version: 2}},
		Deploys: []api.Deploy{{Job: 3, Version: 4, State: deployRunning, Index: 9}},
	}
	h.quiet(tickDeadline, s)
	h.asks(s, api.Cmd{Op: cmdRevert, Job: api.Job{ID: 3, Version: 4}})
}
