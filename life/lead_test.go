package life_test

import (
	"testing"

	"coxswain/api"
	"coxswain/life"
)

// P16.1: behind New no clock runs, however often Lead is called; each New's clocks are its own.
func TestNew(t *testing.T) {
	onBothSides(t, func(h hand, d side) {
		x := thing{2, 5, 9}
		h.begins(d, x)
		h.anew().begins(d, x)
		h = h.anew()
		h.Lead()
		h.begins(d, x)
		h = h.anew()
		for range 30 {
			h.Lead()
		}
		h.begins(d, x)
	})
	h := fresh(t)
	h.quiet(100, api.Store{})
	h.Lead()
	h.quiet(100, api.Store{})
	for range 100 {
		h := hand{t, life.New()}
		h.asks(both(nodes().store(thing{1, 1, 1}), deploys().store(thing{1, 1, 1})))
	}
}

// P16.1: behind Lead no clock runs, wherever those stood that did.
func TestLead(t *testing.T) {
	onBothSides(t, func(h hand, d side) {
		x, y := thing{2, 5, 9}, thing{1, 5, 9}
		for at := 0; at < d.end+8; at++ {
			h := h.anew()
			h.ages(d, 0, at-1, x, y)
			h.Lead()
			h.begins(d, x, y)
			h.Lead()
			h.Lead()
			h.begins(d, y, x)
		}
	})
}

// P16.1: Lead at each Tick, and at each 20th or 40th one: nothing is asked; at each 21st or 41st one: once between each two.
func TestLeadAgainAndAgain(t *testing.T) {
	onBothSides(t, func(h hand, d side) {
		x := thing{2, 5, 9}
		for _, between := range []int{1, 2, d.end - 1, d.end} {
			for range 20 {
				h.quiet(between, d.store(x))
				h.Lead()
			}
		}
		for range 20 {
			h.quiet(d.end, d.store(x))
			h.asks(d.store(x), d.cmd(x))
			h.Lead()
		}
	})
}

// P16.1: Lead stops the clocks of nodes and of deployments at once, and those that were put back.
func TestLeadStopsAll(t *testing.T) {
	n, d := nodes(), deploys()
	ns, ds := []thing{{1, 2, 3}, {2, 2, 3}}, []thing{{1, 2, 3}, {4, 2, 3}}
	s := both(n.store(ns...), d.store(ds...))
	for at := range tickDeadline + 8 {
		h := fresh(t)
		for range at {
			h.Tick(s)
		}
		h.Lead()
		for age := range 2 * tickDeadline {
			var want []api.Cmd
			if n.due(age) {
				want = append(want, n.cmds(ns...)...)
			}
			if d.due(age) {
				want = append(want, d.cmds(ds...)...)
			}
			h.asks(s, want...)
		}
	}
}

// P16.1: Lead of one leader's clocks leaves those of another one as they are.
func TestLeadOfAnotherOne(t *testing.T) {
	onBothSides(t, func(h hand, d side) {
		x := thing{2, 5, 9}
		other := life.New()
		for age := range 3 * d.end {
			h.ages(d, age, age, x)
			other.Tick(d.store(x))
			other.Lead()
		}
	})
}
