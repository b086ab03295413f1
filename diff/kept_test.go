package diff_test

import (
	"math/rand"
	"reflect"
	"slices"
	"testing"

	"coxswain/api"
	"coxswain/diff"
	"coxswain/store"
)

// told is what is told of the jobs of small IDs.
type told struct {
	stops [5][]int
	empty [5][]diff.Slot
}

func ask(s api.Store) told {
	var out told
	for i := range out.stops {
		a, b := diff.Diff(s, i-1)
		out.stops[i], out.empty[i] = append([]int{}, a...), append([]diff.Slot{}, b...)
	}
	return out
}

// roomy is the same list in new memory, with spare room that is filled with things that would count.
func roomy[T any](list []T, spare T) []T {
	return append(slices.Clone(list), spare, spare)[:len(list)]
}

// roomyStore is the store in new memory, with spare room behind the lists that are looked at.
func roomyStore(s api.Store) api.Store {
	s = store.Copy(s)
	for i := range s.Jobs {
		s.Jobs[i].Groups = roomy(s.Jobs[i].Groups, api.Group{Count: 3})
	}
	s.Jobs = roomy(s.Jobs, job(service, 4))
	s.Nodes = roomy(s.Nodes, up(8))
	s.Allocs = roomy(s.Allocs, at(99, 0, 0, 1))
	return s
}

// whole is the store with its lists' spare room, in new memory.
func whole(s api.Store) api.Store {
	s.Jobs, s.Nodes, s.Allocs = s.Jobs[:cap(s.Jobs)], s.Nodes[:cap(s.Nodes)], s.Allocs[:cap(s.Allocs)]
	s.Jobs = slices.Clone(s.Jobs)
	for i, j := range s.Jobs {
		s.Jobs[i].Groups = j.Groups[:cap(j.Groups)]
	}
	return store.Copy(s)
}

// R4, R5: what is handed in stays, its spare room too, into which nobody looks; asked again, and behind others, it is told the same.
func TestWhatIsHandedInStays(t *testing.T) {
	dice := rand.New(rand.NewSource(13))
	for range 10000 {
		s := anyStore(dice)
		if often(dice, 5) {
			s = anyChange(dice, true)
		}
		want := ask(s)
		handed := roomyStore(s)
		all := whole(handed)
		if !reflect.DeepEqual(ask(handed), want) {
			t.Fatalf("%+v is not told the same with spare room", s)
		}
		ask(anyStore(dice))
		if !reflect.DeepEqual(ask(handed), want) {
			t.Fatalf("%+v is not told the same again", s)
		}
		if !store.Same(handed, s) || !store.Same(whole(handed), all) {
			t.Fatalf("%+v was changed", s)
		}
	}
}

// R4: what is answered is new memory: who writes over it, and over its spare room, changes neither the store nor another answer.
func TestAnswersAreNewMemory(t *testing.T) {
	dice := rand.New(rand.NewSource(13))
	for range 5000 {
		s := anyChange(dice, true)
		handed := roomyStore(s)
		all, want := whole(handed), ask(handed)
		stops, empty := diff.Diff(handed, 1)
		keptStops, keptEmpty := diff.Diff(handed, 1)
		for i := range stops[:cap(stops)] {
			stops[:cap(stops)][i] = -77
		}
		for i := range empty[:cap(empty)] {
			empty[:cap(empty)][i] = diff.Slot{Group: -77, Index: -77}
		}
		if !store.Same(whole(handed), all) || !reflect.DeepEqual(ask(handed), want) {
			t.Fatalf("%+v was changed by its answer", s)
		}
		if !slices.Equal(keptStops, want.stops[2]) || !slices.Equal(keptEmpty, want.empty[2]) {
			t.Fatalf("one answer of %+v was changed by another", s)
		}
	}
}

// R4: nil and empty lists are one.
func TestNilAndEmptyAreOne(t *testing.T) {
	dice := rand.New(rand.NewSource(13))
	same := func(a, b api.Store) {
		t.Helper()
		if !reflect.DeepEqual(ask(a), ask(b)) {
			t.Fatalf("nil and empty are two: %+v", a)
		}
	}
	same(api.Store{}, api.Store{Jobs: []api.Job{}, Nodes: []api.Node{}, Allocs: []api.Alloc{}})
	for range 2000 {
		s := anyStore(dice)
		a, b := s, s
		a.Nodes, b.Nodes = nil, []api.Node{}
		same(a, b)
		a, b = s, s
		a.Allocs, b.Allocs = nil, []api.Alloc{}
		same(a, b)
		a, b = store.Copy(s), store.Copy(s)
		for i := range a.Jobs {
			a.Jobs[i].Groups, b.Jobs[i].Groups = nil, []api.Group{}
		}
		same(a, b)
	}
}

// R5: numbers that the chapter does not name change nothing.
func TestOtherNumbersDoNotCount(t *testing.T) {
	dice := rand.New(rand.NewSource(13))
	for range 5000 {
		s := anyChange(dice, true)
		if often(dice, 5) {
			s = anyStore(dice)
		}
		other := store.Copy(s)
		other.Index, other.Next = anyNumber(dice, 9), anyNumber(dice, 9)
		other.Stable = []api.Job{job(service, 1), job(batch, 3)}
		other.Evals, other.Deploys = []api.Eval{{Job: 1, State: 1}}, []api.Deploy{{Job: 1, Version: 2, State: 1}}
		other.Seen = []api.Seen{{Client: 1, Answer: api.Result{Allocs: []api.Alloc{at(1, 0, 0, 1)}}}}
		for i := range other.Jobs {
			other.Jobs[i].Priority = anyNumber(dice, 100)
			for g := range other.Jobs[i].Groups {
				other.Jobs[i].Groups[g].Ask = api.Res{CPU: anyNumber(dice, 9), Mem: anyNumber(dice, 9)}
			}
		}
		for i := range other.Nodes {
			n := &other.Nodes[i]
			n.Cap, n.Boot, n.Epoch, n.Seq = api.Res{CPU: anyNumber(dice, 9), Mem: -1}, anyNumber(dice, 9), anyNumber(dice, 9), anyNumber(dice, 9)
		}
		for i := range other.Allocs {
			other.Allocs[i].Epoch, other.Allocs[i].Ask = anyNumber(dice, 9), api.Res{CPU: -1, Mem: anyNumber(dice, 9)}
		}
		if !reflect.DeepEqual(ask(s), ask(other)) {
			t.Fatalf("%+v is told otherwise than %+v", other, s)
		}
	}
}

// R1, R6: the least and the greatest numbers, in every number that is looked at, end, do not panic, and are told by the chapter's words.
func TestAnyNumbersAtAll(t *testing.T) {
	for _, a := range farNumbers() {
		for _, b := range farNumbers() {
			for _, c := range farNumbers() {
				for kind := range 5 {
					s := api.Store{
						Jobs:   []api.Job{{ID: a, Type: kind, Parallel: b, Version: c, Groups: []api.Group{{Count: b}, {Count: c}}}, {ID: b, Type: c, Parallel: a, Version: b, Groups: []api.Group{{Count: a}}}},
						Nodes:  []api.Node{up(a), up(b), drained(c)},
						Allocs: []api.Alloc{{ID: 1, Job: a, Version: b, Group: c, Index: a, Node: b, State: c}, {ID: a, Job: a, Version: c, Group: 0, Index: b, Node: a, State: b}, {ID: b, Job: b, Version: a, Group: 0, Index: 0, Node: c, State: 2}},
					}
					asWords(t, s, a)
					asWords(t, s, b)
					asWords(t, s, c)
				}
				if t.Failed() {
					return
				}
			}
		}
	}
}

// R1: lists that are far longer than what may be end soon.
func TestLongLists(t *testing.T) {
	const groups, allocs, nodes = 30000, 120000, 30000
	s := of(parallel(job(service), allocs))
	for i := range groups {
		s.Jobs[0].Groups = append(s.Jobs[0].Groups, api.Group{Count: 5})
		s.Nodes = append(s.Nodes, up(nodes-i))
	}
	for i := range allocs {
		s.Allocs = append(s.Allocs, on(i%nodes, at(i, i/4, i%4, 1)))
	}
	if stops, empty := diff.Diff(s, 1); len(stops) != allocs || len(empty) != 0 {
		t.Errorf("%d to stop, %d to fill", len(stops), len(empty))
	}
	s.Jobs[0].Type, s.Jobs[0].Groups = system, s.Jobs[0].Groups[:2]
	if stops, empty := diff.Diff(s, 1); len(stops) != allocs || len(empty) != 2*nodes-6 {
		t.Errorf("%d to stop, %d to fill", len(stops), len(empty))
	}
	s.Jobs[0].Stopped = true
	if stops, empty := diff.Diff(s, 1); len(stops) != allocs || len(empty) != 0 {
		t.Errorf("%d to stop, %d to fill", len(stops), len(empty))
	}
}
