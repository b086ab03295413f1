package sched_test

import (
	"math/rand"
	"slices"
	"testing"

	"coxswain/api"
	"coxswain/sched"
	"coxswain/store"
)

// ask is what is told of the jobs of small numbers.
func ask(s api.Store) [5]api.Plan {
	var out [5]api.Plan
	for i := range out {
		out[i] = sched.Plan(s, i-1)
	}
	return out
}

func allAlike(a, b [5]api.Plan) bool { return slices.EqualFunc(a[:], b[:], alike) }

// roomy is the same list in new memory, with spare room that is filled with things that would count.
func roomy[T any](list []T, spare T) []T {
	return append(slices.Clone(list), spare, spare)[:len(list)]
}

// roomyStore is the store in new memory, with spare room behind the lists that are looked at.
func roomyStore(s api.Store) api.Store {
	s = store.Copy(s)
	for i := range s.Jobs {
		s.Jobs[i].Groups = roomy(s.Jobs[i].Groups, group(3, 1, 1))
	}
	s.Jobs = roomy(s.Jobs, job(service, group(4, 1, 1)))
	s.Nodes = roomy(s.Nodes, up(8, 99, 99))
	s.Allocs = roomy(s.Allocs, at(99, 0, 0, 1))
	s.Evals = roomy(s.Evals, api.Eval{Job: 1, State: evalPending, Index: 66})
	return s
}

// whole is the store with its lists' spare room, in new memory.
func whole(s api.Store) api.Store {
	s.Jobs, s.Nodes, s.Allocs, s.Evals = s.Jobs[:cap(s.Jobs)], s.Nodes[:cap(s.Nodes)], s.Allocs[:cap(s.Allocs)], s.Evals[:cap(s.Evals)]
	s.Jobs = slices.Clone(s.Jobs)
	for i, j := range s.Jobs {
		s.Jobs[i].Groups = j.Groups[:cap(j.Groups)]
	}
	return store.Copy(s)
}

// R4, R5: what is handed in stays, its spare room too, into which nobody looks; asked again, and behind others, it is told the same.
func TestWhatIsHandedInStays(t *testing.T) {
	dice := rand.New(rand.NewSource(14))
	for range 10000 {
		s := anyStore(dice)
		want := ask(s)
		handed := roomyStore(s)
		all := whole(handed)
		if !allAlike(ask(handed), want) {
			t.Fatalf("%+v is not told the same with spare room", s)
		}
		ask(anyStore(dice))
		if !allAlike(ask(handed), want) {
			t.Fatalf("%+v is not told the same again", s)
		}
		if !store.Same(handed, s) || !store.Same(whole(handed), all) {
			t.Fatalf("%+v was changed", s)
		}
	}
}

// R4: what is answered is new memory: who writes over it, and over its spare room, changes neither the store nor another answer.
func TestAnswersAreNewMemory(t *testing.T) {
	dice := rand.New(rand.NewSource(14))
	written := 0
	for range 10000 {
		handed := roomyStore(anyStore(dice))
		all, want, kept := whole(handed), ask(handed), ask(handed)
		for _, p := range ask(handed) {
			for i := range p.Stops[:cap(p.Stops)] {
				p.Stops[:cap(p.Stops)][i] = -77
			}
			for i := range p.Places[:cap(p.Places)] {
				p.Places[:cap(p.Places)][i] = at(-77, -77, -77, -77)
			}
			written += len(p.Stops) + len(p.Places)
		}
		if !store.Same(whole(handed), all) || !allAlike(ask(handed), want) || !allAlike(kept, want) {
			t.Fatalf("%+v, or another answer, was changed by its answer", handed)
		}
	}
	if written < 10000 {
		t.Errorf("only %d were written over", written)
	}
}

// R4: nil and empty lists are one.
func TestNilAndEmptyAreOne(t *testing.T) {
	dice := rand.New(rand.NewSource(14))
	same := func(s api.Store, none, empty func(s *api.Store)) {
		t.Helper()
		a, b := store.Copy(s), store.Copy(s)
		none(&a)
		empty(&b)
		if !allAlike(ask(a), ask(b)) {
			t.Fatalf("nil and empty are two: %+v", a)
		}
	}
	for range 3000 {
		s := anyStore(dice)
		same(s, func(s *api.Store) { s.Jobs = nil }, func(s *api.Store) { s.Jobs = []api.Job{} })
		same(s, func(s *api.Store) { s.Nodes = nil }, func(s *api.Store) { s.Nodes = []api.Node{} })
		same(s, func(s *api.Store) { s.Allocs = nil }, func(s *api.Store) { s.Allocs = []api.Alloc{} })
		same(s, func(s *api.Store) { s.Evals = nil }, func(s *api.Store) { s.Evals = []api.Eval{} })
		groups := func(s *api.Store, groups []api.Group) {
			for i := range s.Jobs {
				s.Jobs[i].Groups = groups
			}
		}
		same(s, func(s *api.Store) { groups(s, nil) }, func(s *api.Store) { groups(s, []api.Group{}) })
	}
}

// R5: numbers and lists that the chapter does not name change nothing.
func TestOtherNumbersDoNotCount(t *testing.T) {
	dice := rand.New(rand.NewSource(14))
	for range 10000 {
		s := anyStore(dice)
		more := store.Copy(s)
		more.Index, more.Next = anyNumber(dice, 9), anyNumber(dice, 9)
		more.Stable = []api.Job{job(service, group(1, 1, 1)), job(batch, group(3, 1, 1))}
		more.Deploys = []api.Deploy{{Job: 1, Version: 2, State: 1, Index: 9}}
		more.Seen = []api.Seen{{Client: 1, Answer: api.Result{Allocs: []api.Alloc{at(1, 0, 0, 1)}}}}
		for i := range more.Jobs {
			more.Jobs[i].Priority = anyNumber(dice, 100)
		}
		for i := range more.Nodes {
			more.Nodes[i].Boot, more.Nodes[i].Seq = anyNumber(dice, 9), anyNumber(dice, 9)
		}
		for i := range more.Allocs {
			more.Allocs[i].Epoch = anyNumber(dice, 9)
		}
		for i := range more.Evals {
			more.Evals[i].Priority, more.Evals[i].State = anyNumber(dice, 9), anyNumber(dice, 5)
		}
		if !allAlike(ask(s), ask(more)) {
			t.Fatalf("%+v is told otherwise than %+v", more, s)
		}
	}
}

// R1, R6: the least and the greatest numbers, in every number that is looked at, end, do not panic, and are told by the chapter's words.
func TestAnyNumbersAtAll(t *testing.T) {
	for _, a := range farNumbers() {
		for _, b := range farNumbers() {
			for _, c := range farNumbers() {
				for kind := range 5 {
					s := api.Store{
						Jobs:   []api.Job{{ID: a, Type: kind, Parallel: b, Version: c, Groups: []api.Group{group(b, c, a), group(c, 1, b)}}, {ID: b, Type: c, Parallel: a, Version: b, Groups: []api.Group{group(a, b, c)}}},
						Nodes:  []api.Node{up(a, c, b), up(b, c, c), drained(c, a, b), up(1, b, c)},
						Allocs: []api.Alloc{{ID: 1, Job: a, Version: b, Group: c, Index: a, Node: b, Ask: res(b, a), State: c}, {ID: b, Job: b, Version: a, Node: c, Ask: res(0, 1), State: 2}},
						Evals:  []api.Eval{{Job: a, Priority: b, State: c, Index: b}, {Job: c, Index: a}},
					}
					asWords(t, s, a)
					asWords(t, s, b)
					asWords(t, s, c)
				}
				if t.Failed() {
					return
				}
			}
		}
	}
}

// R1: lists that are longer than what may be end soon.
func TestLongLists(t *testing.T) {
	const many = 500
	s := of(job(service))
	for i := range many {
		s.Jobs[0].Groups = append(s.Jobs[0].Groups, group(5, 10, 1))
		s.Nodes = append(s.Nodes, up(many-i, 10, 4))
	}
	p := sched.Plan(s, 1)
	if len(p.Places) != many || !p.Blocked {
		t.Fatalf("%d places, Blocked is %v", len(p.Places), p.Blocked)
	}
	for i, a := range p.Places {
		if a.Group != i/4 || a.Index != i%4 || a.Node != i+1 {
			t.Fatalf("the place %d is %+v", i, a)
		}
	}
	s.Jobs[0].Type, s.Jobs[0].Groups = system, s.Jobs[0].Groups[:2]
	if p = sched.Plan(s, 1); len(p.Places) != many || !p.Blocked || p.Places[0].Node != many {
		t.Errorf("%d places, Blocked is %v", len(p.Places), p.Blocked)
	}
}
