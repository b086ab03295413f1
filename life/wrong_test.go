package life_test

import (
	"math"
	"math/rand"
	"testing"

	"coxswain/api"
)

// R1, R6: the least and the greatest numbers, and others that may not be, are numbers like all: each has its clock, apart from all others.
func TestFarNumbers(t *testing.T) {
	onBothSides(t, func(h hand, d side) {
		all := farThings(farNumbers())
		s := d.store(all...)
		h.quiet(d.end, s)
		h.asks(s, d.cmds(all...)...)
		h.quiet(tickRenew-1, s)
		h.asks(s, d.cmds(all...)...)
	})
}

// R1, R6: of all far things each one is another one: each change from one to the other begins anew.
func TestFarNumbersOneBehindTheOther(t *testing.T) {
	onBothSides(t, func(h hand, d side) {
		all := farThings([]int{math.MinInt, -1, 0, 1, 1 << 32, 1 << 40, math.MaxInt})
		rand.New(rand.NewSource(16)).Shuffle(len(all), func(i, j int) { all[i], all[j] = all[j], all[i] })
		for _, x := range all {
			h.quiet(d.end, d.store(x))
		}
		for _, x := range all {
			h.begins(d, x)
		}
	})
}

// R1, R3: what else stands in a node, or in the store, be it what may not be, is not told, and does not count.
func TestFarNumbersElsewhere(t *testing.T) {
	far := farNumbers()
	h := fresh(t)
	for age := range 200 {
		n := far[age%len(far)]
		s := api.Store{
			Index:   n,
			Next:    n,
			Jobs:    []api.Job{{ID: n, Type: n, Priority: n, Parallel: n, Groups: []api.Group{{Count: n, Ask: api.Res{CPU: n, Mem: n}}}, Version: n}},
			Nodes:   []api.Node{{ID: 1, Cap: api.Res{CPU: n, Mem: n}, Up: true, Drain: n < 0, Boot: n, Epoch: 2, Seq: 3}, {ID: n, Epoch: n, Seq: n}},
			Allocs:  []api.Alloc{{ID: n, Job: n, Node: n, State: n}},
			Evals:   []api.Eval{{Job: n, State: n}},
			Deploys: []api.Deploy{{Job: n, Version: n, State: 2 + age%2, Index: n}, {Job: 4, Version: 5, State: deployRunning, Index: 6}},
			Seen:    []api.Seen{{Client: n, Req: n}},
		}
		var want []api.Cmd
		if nodes().due(age) {
			want = nodes().cmds(thing{1, 2, 3})
		}
		if deploys().due(age) {
			want = append(want, deploys().cmd(thing{4, 5, 6}))
		}
		h.asks(s, want...)
	}
}

// R1: each Tick ends, whatever comes, Lead between them.
func TestAnyTicksAtAnyNumbers(t *testing.T) {
	dice := rand.New(rand.NewSource(16))
	far := farNumbers()
	pick := func() int { return far[dice.Intn(len(far))] }
	h := fresh(t)
	for range 5000 {
		var s api.Store
		for range dice.Intn(30) {
			s.Nodes = append(s.Nodes, api.Node{ID: pick(), Cap: api.Res{CPU: pick(), Mem: pick()}, Up: dice.Intn(2) == 0, Drain: dice.Intn(2) == 0, Boot: pick(), Epoch: pick(), Seq: pick()})
		}
		for range dice.Intn(30) {
			s.Deploys = append(s.Deploys, api.Deploy{Job: pick(), Version: pick(), State: dice.Intn(5) - 1, Index: pick()})
		}
		h.quiet(1, s)
		if dice.Intn(20) == 0 {
			h.Lead()
		}
	}
}
