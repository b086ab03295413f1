package store_test

import (
	"math/rand"
	"testing"

	"coxswain/api"
	"coxswain/store"
)

// held is an allocation of the slot (1, 0, 0), in this state.
func held(state int) api.Alloc {
	return api.Alloc{ID: 9, Job: 1, Version: 2, Node: 3, State: state}
}

func allocs(list ...api.Alloc) api.Store { return api.Store{Allocs: list} }

// P10.2 to P10.4, the chapter's examples.
func TestExamples(t *testing.T) {
	s := example()
	if store.Alloc(s, 6) != 1 || store.Alloc(s, 7) != -1 || store.Job(s, 1) != 0 {
		t.Error("Alloc(6), Alloc(7), Job(1)")
	}
	slot(t, s, 1, 0, 0, 0)
	slot(t, s, 1, 0, 1, -1)
	used(t, s, 3, res(10, 1))
	slots(t, s, 1, 2, 1)
}

// P10.3: a slot that nobody, one, and several hold, and that those hold that are over.
func TestSlotIsHeldByTheFirst(t *testing.T) {
	run, made, over := held(allocRunning), held(allocNew), held(allocDone)
	slot(t, api.Store{}, 1, 0, 0, -1)
	slot(t, api.Store{Allocs: []api.Alloc{}}, 1, 0, 0, -1)
	slot(t, allocs(run), 1, 0, 0, 0)
	slot(t, allocs(made), 1, 0, 0, 0)
	slot(t, allocs(run, made), 1, 0, 0, 0)
	slot(t, allocs(made, run), 1, 0, 0, 0)
	slot(t, allocs(over), 1, 0, 0, -1)
	slot(t, allocs(over, over), 1, 0, 0, -1)
	slot(t, allocs(over, run), 1, 0, 0, 1)
	slot(t, allocs(over, over, made, run), 1, 0, 0, 2)
	slot(t, allocs(run, over), 1, 0, 0, 0)
	other := run
	other.Index = 1
	slot(t, allocs(other, over, other, run), 1, 0, 0, 3)
	slot(t, allocs(other, over, other, run), 1, 0, 1, 0)
}

// P10.3: whoever is not over holds its slot, in whichever state, to Stop or not, of whatever version, node and epoch, and whether its job is there or not.
func TestSlotAsksNothingElse(t *testing.T) {
	for state, holds := range map[int]bool{
		allocNew: true, allocRunning: true, allocDone: false, allocFailed: false, allocEnded: false, allocLost: false,
		0: true, -1: true, -1 << 62: true, 7: false, 1 << 62: false,
	} {
		want := -1
		if holds {
			want = 0
		}
		for _, stop := range []bool{false, true} {
			for _, n := range farNumbers() {
				a := api.Alloc{ID: n, Job: 1, Version: n, Node: n, Epoch: n, Ask: res(n, n), Stop: stop, State: state}
				slot(t, allocs(a), 1, 0, 0, want)
			}
		}
	}
	for _, jobs := range [][]api.Job{nil, {{ID: 2}}, {{ID: 1}}, {{ID: 1, Stopped: true}}, {{ID: 1, Type: system}}} {
		slot(t, api.Store{Jobs: jobs, Allocs: []api.Alloc{held(allocRunning)}}, 1, 0, 0, 0)
	}
}

// P10.3: Job, Group and Index, each of them, and none for another one.
func TestSlotAsksAllThree(t *testing.T) {
	var s api.Store
	for job := range 3 {
		for group := range 3 {
			for index := range 3 {
				s.Allocs = append(s.Allocs, api.Alloc{Job: job, Group: group, Index: index, State: allocRunning})
			}
		}
	}
	for job := -1; job <= 3; job++ {
		for group := -1; group <= 3; group++ {
			for index := -1; index <= 3; index++ {
				want := 9*job + 3*group + index
				if min(job, group, index) < 0 || max(job, group, index) > 2 {
					want = -1
				}
				slot(t, s, job, group, index, want)
			}
		}
	}
}

// P10.3: the least and the greatest numbers are numbers like any, in each of the three.
func TestSlotOfFarNumbers(t *testing.T) {
	far := farNumbers()
	for i, n := range far {
		m := far[(i+1)%len(far)]
		s := allocs(
			api.Alloc{Job: n, Group: 50, Index: 60, State: allocNew},
			api.Alloc{Job: 50, Group: n, Index: 60, State: allocNew},
			api.Alloc{Job: 50, Group: 60, Index: n, State: allocNew},
			api.Alloc{Job: n, Group: n, Index: n, State: allocNew})
		slot(t, s, n, 50, 60, 0)
		slot(t, s, 50, n, 60, 1)
		slot(t, s, 50, 60, n, 2)
		slot(t, s, n, n, n, 3)
		slot(t, s, m, 50, 60, -1)
		slot(t, s, 50, m, 60, -1)
		slot(t, s, 50, 60, m, -1)
		slot(t, s, m, m, m, -1)
		slot(t, s, n, n, m, -1)
		slot(t, s, n, m, n, -1)
		slot(t, s, m, n, n, -1)
	}
}

// holder is the chapter's word, from the list's end on: whoever stands ahead of the others is told last.
func holder(s api.Store, job, group, index int) int {
	out := -1
	for i := len(s.Allocs) - 1; i >= 0; i-- {
		a := s.Allocs[i]
		if [3]int{a.Job, a.Group, a.Index} == [3]int{job, group, index} && a.State < allocDone {
			out = i
		}
	}
	return out
}

// P10.3: any allocations at all.
func TestSlotOfAny(t *testing.T) {
	dice := rand.New(rand.NewSource(10))
	there := 0
	for range 4000 {
		s := anyStore(dice, 40)
		s.Jobs, s.Seen = nil, nil
		for n := range 5 * 5 * 5 {
			want := holder(s, n/25, n/5%5, n%5)
			slot(t, s, n/25, n/5%5, n%5, want)
			if want > 0 {
				there++
			}
		}
	}
	if there < 1000 {
		t.Errorf("only %d slots were held", there)
	}
}
