package life_test

import (
	"math/rand"
	"testing"

	"coxswain/api"
)

// watch is a leader's clocks seen from outside, with no word of the chapter but P16.3.
type watch struct {
	hand
	now   int           // how many Ticks there were
	first map[thing]int // of each node that was Up at the last Tick: the first one that saw it so, or the first one behind Lead
	downs int
}

func (w *watch) lead() {
	w.Lead()
	w.first = map[thing]int{}
}

// tick is one, that asks for no node too early, and for each in time.
func (w *watch) tick(s api.Store) []api.Cmd {
	w.Helper()
	first := map[thing]int{}
	for _, n := range s.Nodes {
		x := thing{n.ID, n.Epoch, n.Seq}
		if at, was := w.first[x]; n.Up && was {
			first[x] = at
		} else if n.Up {
			first[x] = w.now
		}
	}
	w.first = first
	out := w.Tick(s)
	asked := map[thing]int{}
	for _, c := range out {
		x := thing{c.Node.ID, c.Node.Epoch, c.Node.Seq}
		if at, there := first[x]; c.Op == cmdDown && (!there || w.now < at+tickDown) {
			w.Fatalf("the Tick %d asks for %+v, which was seen at %v", w.now, c.Node, first)
		}
		if c.Op == cmdDown {
			asked[x]++
			w.downs++
		}
	}
	for x, at := range first {
		if w.now == at+tickDown && asked[x] != 1 {
			w.Fatalf("the Tick %d asks %d times for %+v, which has stayed as it is since %d", w.now, asked[x], x, at)
		}
	}
	w.now++
	return out
}

// P16.3: long runs in which nodes beat, are silent, register anew and go, and the leader begins to lead now and then; what is asked is done, or gets lost, or comes late.
func TestPatience(t *testing.T) {
	downs := 0
	for seed := range int64(400) {
		dice := rand.New(rand.NewSource(seed))
		w := &watch{hand: fresh(t), first: map[thing]int{}}
		silence := []int{2, 10, 20, 40}[dice.Intn(4)]
		var s api.Store
		var late []api.Cmd
		for id := range dice.Intn(5) {
			s.Nodes = append(s.Nodes, api.Node{ID: id + 1, Up: dice.Intn(3) > 0, Epoch: 1})
		}
		for range 600 {
			for i := range s.Nodes {
				beat(dice, &s.Nodes[i], silence)
			}
			if dice.Intn(100) == 0 {
				w.lead()
			}
			late = append(late, w.tick(s)...)
			if dice.Intn(4) == 0 {
				takeDown(s, late)
				late = nil
			}
		}
		downs += w.downs
	}
	if downs < 2000 {
		t.Errorf("in all runs only %d were asked for", downs)
	}
}

// beat is what a node does between two Ticks: nothing, mostly.
func beat(dice *rand.Rand, n *api.Node, silence int) {
	switch {
	case dice.Intn(silence) == 0 && n.Up:
		n.Seq++
	case dice.Intn(300) == 0:
		n.Up, n.Epoch, n.Seq = true, n.Epoch+1, 0
	case dice.Intn(500) == 0 && n.Up:
		n.Up, n.Epoch = false, n.Epoch+1
	}
}

// takeDown does what was asked, as far as it is asked of a node as it is now.
func takeDown(s api.Store, asked []api.Cmd) {
	for _, c := range asked {
		for i := range s.Nodes {
			n := &s.Nodes[i]
			if n.Up && n.ID == c.Node.ID && n.Epoch == c.Node.Epoch && n.Seq == c.Node.Seq {
				n.Up, n.Epoch = false, n.Epoch+1
			}
		}
	}
}

// P16.3: likewise with stores of any kind: several of one ID, the same twice, what comes and goes, deployments beside them.
func TestPatienceWithAnyStores(t *testing.T) {
	downs := 0
	for seed := range int64(400) {
		dice := rand.New(rand.NewSource(2000 + seed))
		w, c := &watch{hand: fresh(t), first: map[thing]int{}}, anyCrowd(dice)
		for range 600 {
			c.change(dice)
			if dice.Intn(100) == 0 {
				w.lead()
			}
			w.tick(c.store())
		}
		downs += w.downs
	}
	if downs < 2000 {
		t.Errorf("in all runs only %d were asked for", downs)
	}
}

// P16.3: whoever beats in time is never asked for, be the time between two beats ever so near to TickDown; who is one Tick too late is.
func TestBeatsJustInTime(t *testing.T) {
	for between := 1; between <= tickDown; between++ {
		h := fresh(t)
		for seq := range 100 {
			h.quiet(between, api.Store{Nodes: []api.Node{{ID: 1, Up: true, Epoch: 1, Seq: seq}}})
		}
	}
	h := fresh(t)
	for seq := range 100 {
		s := api.Store{Nodes: []api.Node{{ID: 1, Up: true, Epoch: 1, Seq: seq}}}
		h.quiet(tickDown, s)
		h.asks(s, nodes().cmd(thing{1, 1, seq}))
	}
}

// P16.3: behind Lead each node has all its time again, however long it has been silent, and is asked for when that is over.
func TestPatienceBehindLead(t *testing.T) {
	s := nodes().store(thing{1, 2, 3}, thing{2, 2, 3})
	for silent := range 3 * tickDown {
		h := fresh(t)
		for range silent {
			h.Tick(s)
		}
		h.Lead()
		h.quiet(tickDown, s)
		h.asks(s, nodes().cmds(thing{1, 2, 3}, thing{2, 2, 3})...)
	}
}
