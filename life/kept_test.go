package life_test

import (
	"math/rand"
	"reflect"
	"slices"
	"testing"

	"coxswain/api"
	"coxswain/life"
)

// roomy is the same list in new memory, with spare room that is filled with things that would count.
func roomy[T any](list []T, more ...T) []T {
	return append(slices.Clone(list), more...)[:len(list)]
}

// roomyStore is a store with a bit of everything, whose nodes and deployments have spare room in which others stand.
func roomyStore() api.Store {
	return api.Store{
		Index:   99,
		Next:    7,
		Jobs:    []api.Job{{ID: 2, Type: api.JobService, Groups: []api.Group{{Count: 2}}, Version: 3}},
		Stable:  []api.Job{{ID: 2, Groups: []api.Group{{Count: 1}}, Version: 2}},
		Nodes:   roomy(nodes().store(thing{1, 2, 3}, thing{1, 2, 3}, thing{2, 2, 3}).Nodes, api.Node{ID: 77, Up: true}, api.Node{ID: 78, Up: true}),
		Allocs:  []api.Alloc{{ID: 1, Job: 2, State: api.AllocRunning}},
		Evals:   []api.Eval{{Job: 2, State: api.EvalPending}},
		Deploys: roomy(deploys().store(thing{2, 3, 9}, thing{2, 3, 9}).Deploys, api.Deploy{Job: 77, State: deployRunning}),
		Seen:    []api.Seen{{Client: 1, Req: 2, Answer: api.Result{Allocs: []api.Alloc{{ID: 1}}}}},
	}
}

// withSpareRoom is the store with its lists as long as their memory is.
func withSpareRoom(s api.Store) api.Store {
	s.Nodes, s.Deploys = s.Nodes[:cap(s.Nodes)], s.Deploys[:cap(s.Deploys)]
	return s
}

// R4: what is handed in stays as it was, its spare room too, in which nobody looks.
func TestWhatIsHandedInStays(t *testing.T) {
	h := fresh(t)
	s, was := roomyStore(), roomyStore()
	for age := range 3 * tickDeadline {
		var want []api.Cmd
		if nodes().due(age) {
			want = nodes().cmds(thing{1, 2, 3}, thing{2, 2, 3})
		}
		if deploys().due(age) {
			want = append(want, deploys().cmd(thing{2, 3, 9}))
		}
		h.asks(s, want...)
		if !reflect.DeepEqual(withSpareRoom(s), withSpareRoom(was)) {
			t.Fatalf("a Tick changed %+v to %+v", was, s)
		}
	}
}

// R4: what is handed in is not kept: who writes over it behind the Tick changes no clock.
func TestWhatIsHandedInIsNotKept(t *testing.T) {
	onBothSides(t, func(h hand, d side) {
		x := thing{1, 2, 3}
		for age := range 3 * d.end {
			s := d.store(x, x)
			var want []api.Cmd
			if d.due(age) {
				want = d.cmds(x)
			}
			h.asks(s, want...)
			for i := range s.Nodes {
				s.Nodes[i] = api.Node{ID: 9, Up: true, Seq: age}
			}
			for i := range s.Deploys {
				s.Deploys[i] = api.Deploy{Job: 9, State: deployRunning, Index: age}
			}
		}
	})
}

// R4: what is answered is the caller's own: who writes over it, or into its spare room, changes no clock, and no other answer; nor does a later Tick change it.
func TestAnswersAreTheCallersOwn(t *testing.T) {
	onBothSides(t, func(h hand, d side) {
		x, y := thing{1, 2, 3}, thing{2, 2, 3}
		s := d.store(x, y)
		want := d.cmds(x, y)
		h.quiet(d.end, s)
		first := h.Tick(s)
		h.quiet(tickRenew-1, s)
		second := h.Tick(s)
		if !alike(first, want) || !alike(second, want) {
			t.Fatalf("%+v, and %+v, not %+v", first, second, want)
		}
		for i := range first[:cap(first)] {
			first[:cap(first)][i] = api.Cmd{Op: 99, Job: api.Job{ID: 99, Groups: []api.Group{{Count: 9}}}, Node: api.Node{ID: 99}}
		}
		if !alike(second, want) {
			t.Fatalf("the second answer is %+v, not %+v", second, want)
		}
		h.ages(d, d.end+tickRenew+1, 3*d.end, x, y)
		if !alike(second, want) {
			t.Fatalf("the second answer is %+v, not %+v", second, want)
		}
		if !reflect.DeepEqual(s, d.store(x, y)) {
			t.Fatalf("the store is %+v", s)
		}
	})
}

// R4: nil and empty lists are one: with either there is nothing, and what was there is gone.
func TestEmptyLists(t *testing.T) {
	empty := api.Store{Jobs: []api.Job{}, Stable: []api.Job{}, Nodes: []api.Node{}, Allocs: []api.Alloc{}, Evals: []api.Eval{}, Deploys: []api.Deploy{}, Seen: []api.Seen{}}
	onBothSides(t, func(h hand, d side) {
		x := thing{1, 2, 3}
		for _, none := range []api.Store{{}, empty} {
			h := h.anew()
			h.quiet(100, none)
			h.begins(d, x)
			h.quiet(1, none)
			h.begins(d, x)
		}
	})
}

// told is all that is asked in a run of Ticks by chance, with Ticks of others between.
func told(seed int64, l *life.Life, others ...*life.Life) [][]api.Cmd {
	dice, otherDice := rand.New(rand.NewSource(seed)), rand.New(rand.NewSource(-1-seed))
	crowd, otherCrowd := anyCrowd(dice), anyCrowd(otherDice)
	var out [][]api.Cmd
	for range 150 {
		if dice.Intn(60) == 0 {
			l.Lead()
		}
		crowd.change(dice)
		out = append(out, l.Tick(crowd.store()))
		for _, other := range others {
			otherCrowd.change(otherDice)
			other.Tick(otherCrowd.store())
			if otherDice.Intn(9) == 0 {
				other.Lead()
			}
		}
	}
	return out
}

// R5: clocks that are told the same ask the same, whatever others are told between.
func TestToldTheSameAsksTheSame(t *testing.T) {
	for seed := range int64(100) {
		want := told(seed, life.New())
		for range 3 {
			got := told(seed, life.New(), life.New(), life.New())
			if !slices.EqualFunc(got, want, alike) {
				t.Fatalf("seed %d: %+v, not %+v", seed, got, want)
			}
		}
	}
}
