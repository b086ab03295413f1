package life_test

import (
	"slices"
	"testing"

	"coxswain/api"
)

// changes are the thing with one of its numbers changed, little and far.
func changes(x thing) []thing {
	var out []thing
	for _, n := range append(farNumbers(), x.id-1, x.id+1, x.era-1, x.era+1, x.last-1, x.last+1, x.last+1<<32) {
		out = append(out, thing{n, x.era, x.last}, thing{x.id, n, x.last}, thing{x.id, x.era, n})
	}
	return slices.DeleteFunc(out, func(y thing) bool { return y == x })
}

// P16.2: a clock of which one number changes begins anew: at any Tick ahead of its end, at its end, behind it; what was is not asked any more.
func TestAChangeBeginsAnew(t *testing.T) {
	onBothSides(t, func(h hand, d side) {
		x := thing{5, 7, 30}
		for _, y := range changes(x) {
			for _, at := range []int{1, 2, d.end - 2, d.end - 1, d.end, d.end + 1, d.end + 2, d.end + 3, d.end + 4, d.end + 5, d.end + 6} {
				h := h.anew()
				h.ages(d, 0, at-1, x)
				h.begins(d, y)
			}
		}
	})
}

// P16.2: the edges, written out: a beat that is seen at the Tick at which the node would be asked for, one ahead of it, and one behind it.
func TestABeatAtTheEnd(t *testing.T) {
	store := func(epoch, seq int) api.Store {
		return api.Store{Nodes: []api.Node{{ID: 1, Up: true, Epoch: epoch, Seq: seq}}}
	}
	down := func(epoch, seq int) api.Cmd {
		return api.Cmd{Op: cmdDown, Node: api.Node{ID: 1, Epoch: epoch, Seq: seq}}
	}
	for _, now := range [][2]int{{2, 6}, {3, 5}, {3, 0}, {2, 4}, {1, 5}} {
		epoch, seq := now[0], now[1]
		h := fresh(t)
		h.quiet(19, store(2, 5))
		h.quiet(20, store(epoch, seq))
		h.asks(store(epoch, seq), down(epoch, seq))

		h = fresh(t)
		h.quiet(20, store(2, 5))
		h.quiet(20, store(epoch, seq))
		h.asks(store(epoch, seq), down(epoch, seq))

		h = fresh(t)
		h.quiet(20, store(2, 5))
		h.asks(store(2, 5), down(2, 5))
		h.quiet(20, store(epoch, seq))
		h.asks(store(epoch, seq), down(epoch, seq))
	}
}

// P16.2: likewise of a deployment: a task that runs (another Index), and another version.
func TestATaskThatRunsAtTheEnd(t *testing.T) {
	store := func(version, index int) api.Store {
		return api.Store{Deploys: []api.Deploy{{Job: 1, Version: version, State: deployRunning, Index: index}}}
	}
	revert := func(version int) api.Cmd {
		return api.Cmd{Op: cmdRevert, Job: api.Job{ID: 1, Version: version}}
	}
	for _, now := range [][2]int{{2, 6}, {3, 5}, {3, 6}, {2, 4}, {1, 5}} {
		version, index := now[0], now[1]
		h := fresh(t)
		h.quiet(39, store(2, 5))
		h.quiet(40, store(version, index))
		h.asks(store(version, index), revert(version))

		h = fresh(t)
		h.quiet(40, store(2, 5))
		h.quiet(40, store(version, index))
		h.asks(store(version, index), revert(version))

		h = fresh(t)
		h.quiet(40, store(2, 5))
		h.asks(store(2, 5), revert(2))
		h.quiet(40, store(version, index))
		h.asks(store(version, index), revert(version))
	}
}

// P16.2: what changes again and again, in time, is never asked; what changes one Tick too late is asked each time.
func TestChangesInTimeAndTooLate(t *testing.T) {
	onBothSides(t, func(h hand, d side) {
		for last := range 50 {
			h.quiet(d.end, d.store(thing{1, 1, last}))
		}
		for last := 50; last < 100; last++ {
			x := thing{1, 1, last}
			h.quiet(d.end, d.store(x))
			h.asks(d.store(x), d.cmd(x))
		}
	})
}

// P16.2: what changes, and changes back, begins anew both times: the clock that there was is gone.
func TestChangesBack(t *testing.T) {
	onBothSides(t, func(h hand, d side) {
		x, y := thing{5, 7, 30}, thing{5, 7, 31}
		for at := 1; at < d.end+8; at++ {
			for _, between := range []int{1, 2, 3, d.end, d.end + 1} {
				h := h.anew()
				h.ages(d, 0, at-1, x)
				h.ages(d, 0, between-1, y)
				h.begins(d, x)
			}
		}
	})
}

// P16.2: a change of one leaves the other ones' clocks as they are, whichever stands ahead.
func TestAChangeOfAnotherOne(t *testing.T) {
	onBothSides(t, func(h hand, d side) {
		stays := thing{2, 5, 9}
		for age := range 4 * d.end {
			a, b := thing{1, 5, age}, thing{3, age, 9}
			var want []api.Cmd
			if d.due(age) {
				want = d.cmds(stays)
			}
			h.asks(d.store(a, stays, b), want...)
		}
	})
}

// P16.2: a clock goes on wherever in the list its thing stands, and however many stand beside it.
func TestPlacesInTheListDoNotCount(t *testing.T) {
	onBothSides(t, func(h hand, d side) {
		all := []thing{{1, 5, 9}, {2, 5, 9}, {3, 5, 9}, {4, 5, 9}}
		for age := range 4 * d.end {
			front, behind := all[:age%4], all[age%4:]
			list := append(slices.Clone(behind), front...)
			s := d.store(list...)
			d.put(&s, thing{age, age, age})
			var want []api.Cmd
			if d.due(age) {
				want = d.cmds(list...)
			}
			h.asks(s, want...)
		}
	})
}
