package life_test

import (
	"slices"
	"testing"

	"coxswain/api"
)

// P16.2: what is asked in one Tick stands in the order of the list, whatever the numbers are.
func TestTheOrderOfTheList(t *testing.T) {
	onBothSides(t, func(h hand, d side) {
		for _, list := range [][]thing{
			{{1, 1, 1}, {2, 2, 2}, {3, 3, 3}},
			{{3, 3, 3}, {2, 2, 2}, {1, 1, 1}},
			{{2, 9, 1}, {3, 1, 1}, {1, 5, 7}, {-4, 0, 0}, {1, 5, 6}, {1, 4, 8}},
		} {
			h.anew().begins(d, list...)
		}
	})
}

// P16.2: very many, so that no order but the list's is told by chance; then the list turned round.
func TestManyInTheOrderOfTheList(t *testing.T) {
	onBothSides(t, func(h hand, d side) {
		var list, back []thing
		for i := range 3000 {
			x := thing{i * 7919 % 3001, i % 5, i * i % 11}
			list, back = append(list, x), append([]thing{x}, back...)
		}
		h.ages(d, 0, d.end, list...)
		h.ages(d, d.end+1, d.end+tickRenew, back...)
		h.ages(d, d.end+tickRenew+1, d.end+2*tickRenew, list...)
	})
}

// P16.2: of several that came at other Ticks those ask that have come to their end, or to it again, in the order of the list, not in that in which they came.
func TestSeveralThatCameAtOtherTicks(t *testing.T) {
	onBothSides(t, func(h hand, d side) {
		list := []thing{{4, 1, 1}, {1, 1, 1}, {3, 1, 1}, {2, 1, 1}}
		h.anew().arrive(d, 4*d.end, list, 9, 6, 3, 0)
		h.anew().arrive(d, 4*d.end, list, 0, 3, 6, 9)
		h.anew().arrive(d, 4*d.end, list, 7, 0, 4, 1)
		h.anew().arrive(d, 4*d.end, list, 3, 2, 1, 0)
	})
}

// P16.2: nodes ask ahead of deployments, whichever came first, or had come to their end first.
func TestNodesAheadOfDeployments(t *testing.T) {
	n, d := nodes(), deploys()
	ns, ds := []thing{{9, 1, 1}, {8, 1, 1}}, []thing{{2, 1, 1}, {1, 1, 1}}
	for _, came := range [][2]int{{20, 0}, {0, 1}, {0, 4}, {0, 40}, {1, 0}, {2, 0}, {0, 0}, {23, 0}, {80, 0}} {
		h, together := fresh(t), 0
		for now := range 5 * tickDeadline {
			var s api.Store
			var want []api.Cmd
			if now >= came[0] {
				s.Nodes = n.store(ns...).Nodes
			}
			if now >= came[1] {
				s.Deploys = d.store(ds...).Deploys
			}
			if n.due(now - came[0]) {
				want = append(want, n.cmds(ns...)...)
			}
			if d.due(now - came[1]) {
				want = append(want, d.cmds(ds...)...)
			}
			h.asks(s, want...)
			if len(want) == len(ns)+len(ds) {
				together++
			}
		}
		if (came[0]-came[1]-20)%3 == 0 && together == 0 {
			t.Errorf("%v: they never asked in one Tick", came)
		}
	}
}

// P16.2: of two entries that are the same the clock is one: it goes on once a Tick, and asks once, where the first of them stands.
func TestTwoThatAreTheSame(t *testing.T) {
	onBothSides(t, func(h hand, d side) {
		x, y, z := thing{2, 5, 9}, thing{1, 5, 9}, thing{3, 5, 9}
		for _, list := range [][]thing{{x, x}, {x, x, x}, {x, y, x}, {y, x, x}, {x, x, y}, {x, y, y, x}, {x, y, z, z, y, x}, {z, z, z, y, z, x, x}} {
			h := h.anew()
			s := d.store(list...)
			once := eachOnce(list)
			h.quiet(d.end, s)
			h.asks(s, d.cmds(once...)...)
			h.quiet(2, s)
			h.asks(s, d.cmds(once...)...)
			h.ages(d, d.end+tickRenew+1, d.end+4*tickRenew, once...)
		}
	})
}

// eachOnce is the list without what stands in it once more.
func eachOnce(list []thing) []thing {
	var out []thing
	for _, x := range list {
		if !slices.Contains(out, x) {
			out = append(out, x)
		}
	}
	return out
}

// P16.2: it is the same clock when there are two of it at one Tick, and one at the other.
func TestTwoAtOneTickAndOneAtTheOther(t *testing.T) {
	onBothSides(t, func(h hand, d side) {
		x := thing{2, 5, 9}
		for age := range 4 * d.end {
			s := d.store(x)
			for range age % 4 {
				d.put(&s, x)
			}
			var want []api.Cmd
			if d.due(age) {
				want = d.cmds(x)
			}
			h.asks(s, want...)
		}
	})
}

// P16.2: of two with the same numbers of which one rests, the other one has its clock, and asks where it stands.
func TestTwoOfWhichOneRests(t *testing.T) {
	onBothSides(t, func(h hand, d side) {
		x, y := thing{2, 5, 9}, thing{1, 5, 9}
		var ahead, behind api.Store
		d.rest(&ahead, x)
		d.put(&ahead, y)
		d.put(&ahead, x)
		d.put(&behind, x)
		d.put(&behind, y)
		d.rest(&behind, x)
		for age := range 4 * d.end {
			var first, second []api.Cmd
			if d.due(age) {
				first, second = d.cmds(y, x), d.cmds(x, y)
			}
			if age%2 == 0 {
				h.asks(ahead, first...)
			} else {
				h.asks(behind, second...)
			}
		}
	})
}

// P16.2: nodes whose ID, Epoch and Seq are the same are the same, whatever else of them is not.
func TestTwoNodesThatAreElseNotTheSame(t *testing.T) {
	h := fresh(t)
	s := api.Store{Nodes: []api.Node{
		{ID: 1, Up: true, Epoch: 2, Seq: 5},
		{ID: 1, Up: true, Epoch: 2, Seq: 5, Drain: true, Boot: 4, Cap: api.Res{CPU: 100, Mem: 50}},
		{ID: 1, Up: true, Epoch: 2, Seq: 5, Boot: 5},
	}}
	h.quiet(20, s)
	h.asks(s, nodes().cmd(thing{1, 2, 5}))
	h.quiet(2, s)
	h.asks(s, nodes().cmd(thing{1, 2, 5}))
}

// P16.2: two of one ID with another Epoch, or Seq (of one Job with another Version, or Index) have two clocks.
func TestTwoOfOneID(t *testing.T) {
	onBothSides(t, func(h hand, d side) {
		x := thing{2, 5, 9}
		for _, y := range []thing{{2, 6, 9}, {2, 4, 9}, {2, 5, 10}, {2, 5, 8}, {2, 6, 10}, {2, 9, 5}, {5, 2, 9}, {9, 5, 2}} {
			h.anew().begins(d, x, y)
			h.anew().begins(d, y, x)

			h := h.anew()
			h.ages(d, 0, 4, x)
			s := d.store(y, x)
			h.quiet(d.end-5, s)
			h.asks(s, d.cmd(x))
			h.quiet(2, s)
			h.asks(s, d.cmd(x))
			h.quiet(1, s)
			h.asks(s, d.cmd(y))
			h.asks(s, d.cmd(x))
		}
	})
}

// P16.2: one of two of one ID beats, the other one does not.
func TestTwoOfOneIDOfWhichOneChanges(t *testing.T) {
	onBothSides(t, func(h hand, d side) {
		stays := thing{2, 5, 9}
		for age := range 4 * d.end {
			var want []api.Cmd
			if d.due(age) {
				want = d.cmds(stays)
			}
			h.asks(d.store(thing{2, 5, 10 + age}, stays, thing{2, 6 + age, 9}), want...)
		}
	})
}
