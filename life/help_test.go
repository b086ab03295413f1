package life_test

import (
	"math"
	"reflect"
	"slices"
	"testing"

	"coxswain/api"
	"coxswain/life"
)

// The numbers of the document, said once more, so that the tests do not lean on the names.
const (
	cmdDown   = 7
	cmdRevert = 10

	deployRunning = 1
	deployDone    = 2
	deployFailed  = 3

	tickDown     = 20
	tickRenew    = 3
	tickDeadline = 40
)

// thing is what tells a node's clock from others (ID, Epoch, Seq), or a deployment's (Job, Version, Index).
type thing struct{ id, era, last int }

// side is one of the two kinds of what there are clocks of; both are held to the same words.
type side struct {
	name string
	end  int                         // the Tick behind the first one at which it asks
	put  func(s *api.Store, x thing) // lays one into a store of which there is a clock
	rest func(s *api.Store, x thing) // lays one with the same numbers of which there is none
	cmd  func(x thing) api.Cmd       // what it asks
}

// nodes are the clocks of nodes that are up.
func nodes() side {
	return side{
		name: "node",
		end:  tickDown,
		put: func(s *api.Store, x thing) {
			s.Nodes = append(s.Nodes, api.Node{ID: x.id, Up: true, Epoch: x.era, Seq: x.last})
		},
		rest: func(s *api.Store, x thing) {
			s.Nodes = append(s.Nodes, api.Node{ID: x.id, Epoch: x.era, Seq: x.last})
		},
		cmd: func(x thing) api.Cmd {
			return api.Cmd{Op: cmdDown, Node: api.Node{ID: x.id, Epoch: x.era, Seq: x.last}}
		},
	}
}

// deploys are the clocks of deployments that are running.
func deploys() side {
	return side{
		name: "deployment",
		end:  tickDeadline,
		put: func(s *api.Store, x thing) {
			s.Deploys = append(s.Deploys, api.Deploy{Job: x.id, Version: x.era, State: deployRunning, Index: x.last})
		},
		rest: func(s *api.Store, x thing) {
			s.Deploys = append(s.Deploys, api.Deploy{Job: x.id, Version: x.era, State: deployDone, Index: x.last})
		},
		cmd: func(x thing) api.Cmd {
			return api.Cmd{Op: cmdRevert, Job: api.Job{ID: x.id, Version: x.era}}
		},
	}
}

// store is one with these, of which there are clocks.
func (d side) store(things ...thing) api.Store {
	var s api.Store
	for _, x := range things {
		d.put(&s, x)
	}
	return s
}

// resting is a store with these, of which there are none.
func (d side) resting(things ...thing) api.Store {
	var s api.Store
	for _, x := range things {
		d.rest(&s, x)
	}
	return s
}

// cmds are what these ask, in this order.
func (d side) cmds(things ...thing) []api.Cmd {
	var out []api.Cmd
	for _, x := range things {
		out = append(out, d.cmd(x))
	}
	return out
}

// due tells whether one asks that was there for so many Ticks behind the first one.
func (d side) due(age int) bool { return age >= d.end && (age-d.end)%tickRenew == 0 }

// onBothSides has a test held for nodes and for deployments.
func onBothSides(t *testing.T, test func(h hand, d side)) {
	for _, d := range []side{nodes(), deploys()} {
		t.Run(d.name, func(t *testing.T) { test(fresh(t), d) })
	}
}

// hand is a leader's clocks, as they are asked by a test.
type hand struct {
	*testing.T
	*life.Life
}

func fresh(t *testing.T) hand { return hand{t, life.New()} }

// anew is a hand of the same test on clocks of which none runs.
func (h hand) anew() hand { return fresh(h.T) }

// asks holds it what a Tick of this store asks, in this order.
func (h hand) asks(s api.Store, want ...api.Cmd) {
	h.Helper()
	if got := h.Tick(s); !alike(got, want) {
		h.Fatalf("a Tick asks %+v, not %+v", got, want)
	}
}

// quiet holds it that so many Ticks of this store ask nothing.
func (h hand) quiet(count int, s api.Store) {
	h.Helper()
	for at := range count {
		if got := h.Tick(s); len(got) != 0 {
			h.Fatalf("the Tick %d of %d asks %+v, not nothing", at+1, count, got)
		}
	}
}

// ages holds it what is asked by the Ticks of a store that stays as it is: the first one sees its things for the Tick from behind their first, the last one for the Tick to.
func (h hand) ages(d side, from, to int, things ...thing) {
	h.Helper()
	s := d.store(things...)
	for age := from; age <= to; age++ {
		var want []api.Cmd
		if d.due(age) {
			want = d.cmds(things...)
		}
		if got := h.Tick(s); !alike(got, want) {
			h.Fatalf("the Tick %d behind the first one asks %+v, not %+v", age, got, want)
		}
	}
}

// arrive holds it what is asked while each of these comes at its own Tick, and stays; they stand in the list in this order from their first Tick on.
func (h hand) arrive(d side, ticks int, list []thing, came ...int) {
	h.Helper()
	for now := range ticks {
		var there, asking []thing
		for i, x := range list {
			if now >= came[i] {
				there = append(there, x)
			}
			if d.due(now - came[i]) {
				asking = append(asking, x)
			}
		}
		h.asks(d.store(there...), d.cmds(asking...)...)
	}
}

// begins holds it that the clocks of these begin with the next Tick, and come to their end and beyond it.
func (h hand) begins(d side, things ...thing) {
	h.Helper()
	s := d.store(things...)
	h.quiet(d.end, s)
	h.asks(s, d.cmds(things...)...)
	h.quiet(tickRenew-1, s)
	h.asks(s, d.cmds(things...)...)
}

// alike tells whether two lists of commands are the same, nil and empty ones being one.
func alike(a, b []api.Cmd) bool {
	return slices.EqualFunc(a, b, func(x, y api.Cmd) bool { return reflect.DeepEqual(plain(x), plain(y)) })
}

// plain is the command with nil for each list of none.
func plain(c api.Cmd) api.Cmd {
	c.Job.Groups = append([]api.Group(nil), c.Job.Groups...)
	c.Reports = append([]api.Report(nil), c.Reports...)
	c.Plan.Stops = append([]int(nil), c.Plan.Stops...)
	c.Plan.Places = append([]api.Alloc(nil), c.Plan.Places...)
	c.Conf.Voters = append([]int(nil), c.Conf.Voters...)
	c.Conf.Learners = append([]int(nil), c.Conf.Learners...)
	return c
}

// both is a store with the nodes of one and the deployments of another one.
func both(a, b api.Store) api.Store { return api.Store{Nodes: a.Nodes, Deploys: b.Deploys} }

// farNumbers are the least and the greatest of the type, those at the edges of what may be, and those that are small when they are cut to fewer bits.
func farNumbers() []int {
	return []int{math.MinInt, math.MinInt + 1, -1 << 40, -1 << 32, -1, 0, 1, 2, 3, 100, 101, 1 << 32, 1<<32 + 1, 1 << 40, 1<<40 + 1, 1 << 62, math.MaxInt - 1, math.MaxInt}
}

// farThings are all things of any three of these numbers.
func farThings(numbers []int) []thing {
	var out []thing
	for _, id := range numbers {
		for _, era := range numbers {
			for _, last := range numbers {
				out = append(out, thing{id, era, last})
			}
		}
	}
	return out
}
