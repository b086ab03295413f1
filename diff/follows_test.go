package diff_test

import (
	"math/rand"
	"slices"
	"testing"

	"coxswain/api"
	"coxswain/diff"
)

// calm is a store in which all slots of the job 1, of any kind, are held by allocations of its Version on nodes that are not Drain, beside other jobs' and what is over.
func calm(dice *rand.Rand) api.Store {
	s := anyStore(dice)
	s.Jobs, s.Allocs = slices.DeleteFunc(s.Jobs, func(j api.Job) bool { return j.ID == 1 }), slices.DeleteFunc(s.Allocs, func(a api.Alloc) bool { return a.Job == 1 && a.State < allocDone })
	j := anyJob(dice)
	j.ID, j.Stopped = 1, false
	s.Jobs = slices.Insert(s.Jobs, dice.Intn(len(s.Jobs)+1), j)
	for i := range s.Nodes {
		s.Nodes[i].ID = i
	}
	nodes := []int{-1, 9}
	for _, n := range s.Nodes {
		if !n.Drain {
			nodes = append(nodes, n.ID)
		}
	}
	for _, slot := range (words{s, j}).slots() {
		a := api.Alloc{ID: dice.Intn(100), Job: 1, Version: j.Version, Group: slot.Group, Index: slot.Index, Node: nodes[dice.Intn(len(nodes))], State: 1 + dice.Intn(2), Stop: often(dice, 1)}
		s.Allocs = slices.Insert(s.Allocs, dice.Intn(len(s.Allocs)+1), a)
	}
	return s
}

// P13.2: of a job all of whose slots are held by its Version nothing stops and nothing is filled; one thing amiss is told.
func TestNothingOfAJobAsItWants(t *testing.T) {
	dice := rand.New(rand.NewSource(13))
	held := 0
	for range 50000 {
		s := calm(dice)
		is(t, s, nil, nil)
		if t.Failed() {
			return
		}
		w, _ := wordsOf(s, 1)
		places := holders(w)
		held += len(places)
		if len(places) == 0 {
			continue
		}
		one := places[dice.Intn(len(places))]
		s.Allocs[one].State = allocFailed
		a := s.Allocs[one]
		is(t, s, nil, w.emptyOr(fill(a.Group, a.Index)))
		s.Allocs[one].State, s.Allocs[one].Stop, s.Allocs[one].Group = allocRunning, false, -5
		if stops, _ := diff.Diff(s, 1); !slices.Equal(stops, ids(a.ID)) {
			t.Fatalf("%v to stop, not %d, of %+v", stops, a.ID, s)
		}
	}
	if held < 10000 {
		t.Errorf("only %d slots that are held", held)
	}
}

// holders are the places of those that hold the job's slots.
func holders(w words) []int {
	var out []int
	for _, slot := range w.slots() {
		if place := w.holder(slot); place >= 0 {
			out = append(out, place)
		}
	}
	return out
}

// emptyOr is these slots, but of a batch job those that were done long ago.
func (w words) emptyOr(slots []diff.Slot) []diff.Slot {
	return slices.DeleteFunc(slots, func(slot diff.Slot) bool {
		return w.job.Type == batch && slices.ContainsFunc(w.s.Allocs, func(a api.Alloc) bool {
			return a.Job == 1 && a.Version == w.job.Version && a.State == allocDone && a.Group == slot.Group && a.Index == slot.Index
		})
	})
}

// P13.3: in any stores no slot that is held is to be filled; each that is to be filled is a slot of the job, told once.
func TestNoHeldSlotIsFilled(t *testing.T) {
	dice := rand.New(rand.NewSource(133))
	filled, held := 0, 0
	for range 100000 {
		s := anyStore(dice)
		for id := range 3 {
			_, empty := diff.Diff(s, id)
			w, _ := wordsOf(s, id)
			for i, slot := range empty {
				if w.holder(slot) >= 0 || !slices.Contains(w.slots(), slot) || slices.Contains(empty[:i], slot) {
					t.Fatalf("of %d the slot %v is to be filled: %+v", id, slot, s)
				}
			}
			filled += len(empty)
			held += len(holders(w))
		}
	}
	if filled < 10000 || held < 10000 {
		t.Errorf("only %d that are to be filled, and %d that are held", filled, held)
	}
}

// P13.4: of a service job whose allocations all stand in its slots, on nodes that are not Drain, at most Parallel slots move behind it, or as many as did.
func TestAtMostParallelMove(t *testing.T) {
	dice := rand.New(rand.NewSource(134))
	more, same := 0, 0
	for range 100000 {
		s := anyChange(dice, false)
		w, _ := wordsOf(s, 1)
		ahead := w.moving(nil)
		stops, _ := diff.Diff(s, 1)
		for _, id := range stops {
			w.s.Allocs[id-10].Stop = true
		}
		behind := w.moving(nil)
		if behind > max(ahead, w.job.Parallel) || behind < ahead || behind != ahead+len(stops) {
			t.Fatalf("%d moved, %d do behind %v, Parallel %d: %+v", ahead, behind, stops, w.job.Parallel, s)
		}
		if behind > ahead {
			more++
		} else {
			same++
		}
		if again, _ := diff.Diff(w.s, 1); len(again) > 0 {
			t.Fatalf("%v behind %v: %+v", again, stops, s)
		}
	}
	if more < 10000 || same < 10000 {
		t.Errorf("only %d that move more, and %d that do not", more, same)
	}
}

// turn does what is told: some of what is to stop ends, what is new runs, what is empty is filled.
func turn(dice *rand.Rand, s *api.Store, empty []diff.Slot, next *int) {
	for i := range s.Allocs {
		a := &s.Allocs[i]
		if a.Stop && a.State < allocDone && often(dice, 5) {
			a.State = allocEnded
		} else if a.State == allocNew && often(dice, 5) {
			a.State = allocRunning
		}
	}
	for _, slot := range empty {
		s.Allocs = append(s.Allocs, api.Alloc{ID: *next, Job: 1, Version: s.Jobs[0].Version, Group: slot.Group, Index: slot.Index, Node: 1, State: allocNew})
		*next++
	}
}

// P13.2, P13.4: a service rolls from one version to the next, at most Parallel slots at a time, till all of it runs; then nothing is left to do.
func TestRollsTillItRuns(t *testing.T) {
	dice := rand.New(rand.NewSource(13))
	for most := 1; most <= 9; most++ {
		s, next := with(of(parallel(job(service, 4, 3), most)), up(1)), 1
		for version := 2; version < 6; version++ {
			s.Jobs[0].Version = version
			rollsTo(t, dice, &s, &next, version > 2)
		}
		s.Jobs[0].Groups[0].Count, s.Jobs[0].Version = 2, 6
		rollsTo(t, dice, &s, &next, true)
		if t.Failed() {
			return
		}
	}
}

// rollsTo turns the store till nothing is left to do; bound: so few slots move at a time.
func rollsTo(t *testing.T, dice *rand.Rand, s *api.Store, next *int, bound bool) {
	t.Helper()
	for range 500 {
		stops, empty := diff.Diff(*s, 1)
		for i, a := range s.Allocs {
			if slices.Contains(stops, a.ID) {
				s.Allocs[i].Stop = true
			}
		}
		w, _ := wordsOf(*s, 1)
		if bound && w.moving(nil) > w.job.Parallel {
			t.Fatalf("%d slots move, Parallel is %d: %+v", w.moving(nil), w.job.Parallel, s)
		}
		if w.moving(nil) == 0 && len(stops) == 0 {
			is(t, *s, nil, nil)
			for _, slot := range w.slots() {
				if a := s.Allocs[w.holder(slot)]; a.Version != w.job.Version || a.State != allocRunning {
					t.Fatalf("%v holds its slot at the end: %+v", a, s)
				}
			}
			return
		}
		turn(dice, s, empty, next)
	}
	t.Fatalf("it does not come to rest: %+v", s)
}
