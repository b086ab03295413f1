package diff_test

import (
	"math/rand"
	"slices"
	"testing"

	"coxswain/api"
	"coxswain/diff"
)

// words is the chapter's words once more, each thing looked for anew in the lists, and none of it noted in between.
type words struct {
	s   api.Store
	job api.Job
}

func over(a api.Alloc) bool { return a.State >= allocDone }

// slots are the job's slots, in their order.
func (w words) slots() []diff.Slot {
	var out []diff.Slot
	if w.job.Stopped {
		return out
	}
	for group, g := range w.job.Groups {
		if w.job.Type != system {
			for index := 0; index < g.Count && index < mostCount; index++ {
				out = append(out, diff.Slot{Group: group, Index: index})
			}
			continue
		}
		for _, n := range w.s.Nodes {
			slot := diff.Slot{Group: group, Index: n.ID}
			if n.Up && !n.Drain && !slices.Contains(out, slot) {
				out = append(out, slot)
			}
		}
	}
	return out
}

// holder is the place of the first that holds a slot; -1: nobody does.
func (w words) holder(slot diff.Slot) int {
	return slices.IndexFunc(w.s.Allocs, func(a api.Alloc) bool {
		return a.Job == w.job.ID && a.Group == slot.Group && a.Index == slot.Index && !over(a)
	})
}

// onDrained tells whether an allocation stands on a node that is there and Drain.
func (w words) onDrained(a api.Alloc) bool {
	place := slices.IndexFunc(w.s.Nodes, func(n api.Node) bool { return n.ID == a.Node })
	return place >= 0 && w.s.Nodes[place].Drain
}

// moving is how many slots move while these places are to stop.
func (w words) moving(stops []int) int {
	out := 0
	for _, slot := range w.slots() {
		place := w.holder(slot)
		if place < 0 || w.s.Allocs[place].Stop || slices.Contains(stops, place) {
			out++
			continue
		}
		if a := w.s.Allocs[place]; a.Version == w.job.Version && a.State != allocRunning {
			out++
		}
	}
	return out
}

// stops are the places of the allocations that are to stop.
func (w words) stops() []int {
	var out []int
	for place, a := range w.s.Allocs {
		if a.Job != w.job.ID || over(a) || a.Stop {
			continue
		}
		slotless := !slices.Contains(w.slots(), diff.Slot{Group: a.Group, Index: a.Index})
		if slotless || w.onDrained(a) || w.job.Type != service && a.Version != w.job.Version {
			out = append(out, place)
		}
	}
	if w.job.Type != service {
		return out
	}
	for _, slot := range w.slots() {
		place := w.holder(slot)
		if place < 0 || w.s.Allocs[place].Version == w.job.Version || w.s.Allocs[place].Stop || slices.Contains(out, place) {
			continue
		}
		if w.moving(out) < w.job.Parallel {
			out = append(out, place)
		}
	}
	return out
}

// empty are the slots that are to be filled.
func (w words) empty() []diff.Slot {
	var out []diff.Slot
	for _, slot := range w.slots() {
		done := slices.ContainsFunc(w.s.Allocs, func(a api.Alloc) bool {
			return a.Job == w.job.ID && a.Group == slot.Group && a.Index == slot.Index && a.Version == w.job.Version && a.State == allocDone
		})
		if w.holder(slot) < 0 && !(w.job.Type == batch && done) {
			out = append(out, slot)
		}
	}
	return out
}

// wordsOf is the words on the first job of an ID; false: there is none.
func wordsOf(s api.Store, id int) (words, bool) {
	place := slices.IndexFunc(s.Jobs, func(j api.Job) bool { return j.ID == id })
	if place < 0 {
		return words{}, false
	}
	return words{s, s.Jobs[place]}, true
}

// asWords holds it that of this job the chapter's words are told.
func asWords(t *testing.T, s api.Store, id int) ([]int, []diff.Slot) {
	t.Helper()
	w, ok := wordsOf(s, id)
	if !ok {
		isOf(t, s, id, nil, nil)
		return nil, nil
	}
	var stops []int
	for _, place := range w.stops() {
		stops = append(stops, s.Allocs[place].ID)
	}
	empty := w.empty()
	isOf(t, s, id, stops, empty)
	return stops, empty
}

// P13.1: any stores, against the chapter's words.
func TestAnyStores(t *testing.T) {
	dice := rand.New(rand.NewSource(13))
	stopped, filled, none := 0, 0, 0
	for range 100000 {
		s := anyStore(dice)
		for id := range 3 {
			stops, empty := asWords(t, s, id)
			stopped += len(stops)
			filled += len(empty)
			if len(stops) == 0 && len(empty) == 0 {
				none++
			}
		}
		asWords(t, s, anyNumber(dice, 3))
		if t.Failed() {
			return
		}
	}
	if stopped < 10000 || filled < 10000 || none < 10000 {
		t.Errorf("only %d to stop, %d to fill, and %d with none", stopped, filled, none)
	}
}

// P13.1: any service jobs in the midst of a change, in which slots move in every way and Parallel stands at every edge.
func TestAnyChanges(t *testing.T) {
	dice := rand.New(rand.NewSource(131))
	rolled, held := 0, 0
	for range 100000 {
		s := anyChange(dice, true)
		s.Jobs[0].Parallel = dice.Intn(11) - 1
		asWords(t, s, 1)
		if t.Failed() {
			return
		}
		w, _ := wordsOf(s, 1)
		stops := w.stops()
		if moves := w.moving(stops); moves > w.moving(nil) && moves == w.job.Parallel {
			rolled++
		} else if moves >= w.job.Parallel {
			held++
		}
	}
	if rolled < 10000 || held < 10000 {
		t.Errorf("only %d that stop at just Parallel, and %d with as many ahead", rolled, held)
	}
}

// anyChange is a service job 1 of Version 2 whose allocations are of its Version or of others, all in its slots; wild: some on nodes that are Drain, and some in no slot.
func anyChange(dice *rand.Rand, wild bool) api.Store {
	s := of(parallel(job(service), 1+dice.Intn(8)))
	s.Nodes = []api.Node{up(1), gone(2), up(3)}
	for range 1 + dice.Intn(3) {
		s.Jobs[0].Groups = append(s.Jobs[0].Groups, api.Group{Count: dice.Intn(5)})
	}
	if wild {
		s.Nodes = append(s.Nodes, drained(4), goneDrained(5))
		s.Jobs[0].Groups[0].Count = dice.Intn(6)
	}
	w, _ := wordsOf(s, 1)
	for _, slot := range w.slots() {
		for range []int{1, 1, 1, 1, 1, 0, 0, 2}[dice.Intn(8)] {
			a := api.Alloc{Job: 1, Group: slot.Group, Index: slot.Index, Version: 1 + dice.Intn(3), Node: 1 + dice.Intn(4), State: 1 + dice.Intn(3), Stop: often(dice, 1)}
			if a.Node == 4 && (!wild || often(dice, 7)) {
				a.Node = 9
			}
			if wild && often(dice, 1) {
				a.Index = 4 - dice.Intn(6)
			}
			s.Allocs = append(s.Allocs, a)
		}
	}
	dice.Shuffle(len(s.Allocs), func(i, j int) { s.Allocs[i], s.Allocs[j] = s.Allocs[j], s.Allocs[i] })
	for i := range s.Allocs {
		s.Allocs[i].ID = 10 + i
	}
	return s
}
