package life_test

import (
	"runtime"
	"testing"

	"coxswain/api"
	"coxswain/life"
)

// P16.2: what is gone for one Tick and comes again has another clock, that begins with 0: wherever the one that there was stood, and whether it is not in the list, or rests there.
func TestGoneForOneTick(t *testing.T) {
	onBothSides(t, func(h hand, d side) {
		x, other := thing{2, 5, 9}, thing{3, 5, 9}
		for at := 1; at < d.end+8; at++ {
			for _, gone := range []api.Store{{}, d.resting(x), d.store(other), d.resting(other)} {
				h := h.anew()
				h.ages(d, 0, at-1, x)
				h.quiet(1, gone)
				h.begins(d, x)
			}
		}
	})
}

// P16.2: one that comes and goes has never been there for long.
func TestComesAndGoes(t *testing.T) {
	onBothSides(t, func(h hand, d side) {
		x := thing{2, 5, 9}
		for range 30 {
			h.quiet(d.end, d.store(x))
			h.quiet(1, d.resting(x))
			h.quiet(d.end, d.store(x))
			h.quiet(1, api.Store{})
		}
		h.begins(d, x)
		h.quiet(1, api.Store{})
		h.begins(d, x)
	})
}

// P16.2: a node comes up, goes down, and comes up again.
func TestANodeThatComesUpAndGoesDown(t *testing.T) {
	h := fresh(t)
	x := thing{2, 5, 9}
	up, down := nodes().store(x), nodes().resting(x)
	h.quiet(50, down)
	h.quiet(20, up)
	h.asks(up, nodes().cmd(x))
	h.quiet(2, up)
	h.quiet(50, down)
	h.quiet(20, up)
	h.quiet(1, down)
	h.quiet(20, up)
	h.asks(up, nodes().cmd(x))
	h.quiet(50, down)
}

// P16.2: a deployment that is done, or has failed, ahead of its end, at it and behind it, is asked no more; begun again it has another clock.
func TestADeploymentThatIsOver(t *testing.T) {
	x := thing{2, 5, 9}
	d := deploys()
	for _, state := range []int{deployDone, deployFailed, 0, 4, -1} {
		over := api.Store{Deploys: []api.Deploy{{Job: 2, Version: 5, State: state, Index: 9}}}
		for _, at := range []int{1, 39, 40, 41, 42, 43, 44} {
			h := fresh(t)
			h.ages(d, 0, at-1, x)
			h.quiet(100, over)
			h.begins(d, x)
		}
	}
}

// P16.2: one that goes leaves the others' clocks as they are.
func TestOneThatGoesLeavesTheOthers(t *testing.T) {
	onBothSides(t, func(h hand, d side) {
		for at := range d.end + 8 {
			a, b, c := thing{1, 5, 9}, thing{2, 5, 9}, thing{3, 5, 9}
			h := h.anew()
			h.ages(d, 0, at, a, b, c)
			h.ages(d, at+1, at+d.end, a, c)
			h.ages(d, at+d.end+1, at+2*d.end, c)
		}
	})
}

// P16.2: clocks of what is not there any more are gone: what is kept does not grow with what there was.
func TestNothingIsKeptOfWhatIsGone(t *testing.T) {
	l := life.New()
	kept := func() uint64 {
		var m runtime.MemStats
		runtime.GC()
		runtime.ReadMemStats(&m)
		return m.HeapAlloc
	}
	before := kept()
	for at := range 200000 {
		l.Tick(both(nodes().store(thing{1, 1, at}, thing{2, at, 1}), deploys().store(thing{1, 1, at}, thing{2, at, 1})))
	}
	if after := kept(); after > before+4<<20 {
		t.Errorf("%d bytes are kept behind the Ticks", after-before)
	}
	hand{t, l}.begins(nodes(), thing{1, 1, 0})
}
