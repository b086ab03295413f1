package store_test

import (
	"math"
	"math/rand"
	"testing"

	"coxswain/api"
	"coxswain/store"
)

// wanting is a store with the job 1, a service of version 2, with groups of these Counts.
func wanting(counts ...int) api.Store {
	j := api.Job{ID: 1, Type: service, Version: 2}
	for _, n := range counts {
		j.Groups = append(j.Groups, api.Group{Count: n})
	}
	return api.Store{Jobs: []api.Job{j}}
}

// place puts an allocation of the job 1, of version 2, that runs, behind the others.
func place(s *api.Store, group, index int) *api.Alloc {
	s.Allocs = append(s.Allocs, api.Alloc{ID: len(s.Allocs) + 1, Job: 1, Version: 2, Group: group, Index: index, Node: 3, State: allocRunning})
	return &s.Allocs[len(s.Allocs)-1]
}

// filled has all slots of all groups run, and some indexes beyond the Counts.
func filled(counts ...int) api.Store {
	s := wanting(counts...)
	for group := -1; group <= len(counts); group++ {
		for index := -1; index <= 6; index++ {
			place(&s, group, index)
		}
	}
	return s
}

// P10.4: 0 and 0 of a job that is not there, and of a system job; of any other type its slots.
func TestSlotsOfWhichJob(t *testing.T) {
	slots(t, api.Store{}, 1, 0, 0)
	slots(t, api.Store{Jobs: []api.Job{}}, 1, 0, 0)
	slots(t, wanting(2), 2, 0, 0)
	slots(t, filled(2), 0, 0, 0)
	orphan := filled(2)
	orphan.Jobs = nil
	slots(t, orphan, 1, 0, 0)
	orphan.Stable = wanting(2).Jobs
	slots(t, orphan, 1, 0, 0)
	for kind, counts := range map[int]bool{service: true, batch: true, system: false, 0: true, -1: true, 4: true, math.MinInt: true, math.MaxInt: true, 1<<32 + system: true} {
		s := filled(2, 3)
		s.Jobs[0].Type = kind
		if counts {
			slots(t, s, 1, 5, 5)
		} else {
			slots(t, s, 1, 0, 0)
		}
	}
	stopped := filled(2)
	stopped.Jobs[0].Stopped = true
	slots(t, stopped, 1, 2, 2)
}

// P10.4: of two jobs of one ID the first one counts, with its Groups, Version and Type.
func TestSlotsOfTwoJobsOfOneID(t *testing.T) {
	s := filled(2)
	s.Jobs = append(s.Jobs, api.Job{ID: 1, Type: batch, Version: 7, Groups: []api.Group{{Count: 4}, {Count: 4}}})
	slots(t, s, 1, 2, 2)
	s.Jobs[0], s.Jobs[1] = s.Jobs[1], s.Jobs[0]
	slots(t, s, 1, 8, 0)
	s.Jobs[0].Type = system
	slots(t, s, 1, 0, 0)
	s.Jobs[0], s.Jobs[1] = s.Jobs[1], s.Jobs[0]
	slots(t, s, 1, 2, 2)
	s.Jobs = append([]api.Job{{ID: 9, Type: system}, {ID: 0, Groups: []api.Group{{Count: 1}}}}, s.Jobs...)
	slots(t, s, 1, 2, 2)
	slots(t, s, 9, 0, 0)
	slots(t, s, 0, 1, 0)
}

// P10.4: Counts below 0 are 0, those above MaxCount are MaxCount, each by itself; only so many indexes are slots.
func TestSlotsOfCounts(t *testing.T) {
	slots(t, filled(), 1, 0, 0)
	for n, want := range map[int]int{
		0: 0, 1: 1, 2: 2, 3: 3, 4: 4, 5: 4, 6: 4, 7: 4, 1 << 40: 4, math.MaxInt: 4, math.MaxInt - 1: 4, 1 << 32: 4, 1<<32 + 1: 4,
		-1: 0, -2: 0, -4: 0, -1 << 40: 0, 1 - 1<<32: 0, math.MinInt: 0, math.MinInt + 2: 0,
	} {
		slots(t, wanting(n), 1, want, 0)
		slots(t, filled(n), 1, want, want)
		slots(t, wanting(n, 3), 1, want+3, 0)
		slots(t, filled(3, n), 1, 3+want, 3+want)
		slots(t, filled(n, n), 1, 2*want, 2*want)
		slots(t, filled(2, n, 1), 1, 3+want, 3+want)
		slots(t, wanting(n, math.MaxInt, math.MinInt), 1, want+4, 0)
	}
	slots(t, filled(1, 2, 3, 4, 5, 6), 1, 18, 18)
}

// P10.4: which slots run is told one by one: each of them, alone and left out.
func TestSlotsOneByOne(t *testing.T) {
	for bits := range 1 << 7 {
		s := wanting(3, 4)
		run := 0
		for n := range 7 {
			if bits>>n&1 == 0 {
				continue
			}
			run++
			if n < 3 {
				place(&s, 0, n)
			} else {
				place(&s, 1, n-3)
			}
		}
		slots(t, s, 1, 7, run)
	}
}

// P10.4: one that holds a slot does not run, if it is of another Version or job, is not AllocRunning, or is to Stop.
func TestSlotsOfOnesThatDoNotRun(t *testing.T) {
	for _, change := range []func(a *api.Alloc){
		func(a *api.Alloc) { a.Version = 1 },
		func(a *api.Alloc) { a.Version = 3 },
		func(a *api.Alloc) { a.Version = 0 },
		func(a *api.Alloc) { a.Version = 1<<32 + 2 },
		func(a *api.Alloc) { a.Version = math.MinInt },
		func(a *api.Alloc) { a.Job = 2 },
		func(a *api.Alloc) { a.Job = 1<<32 + 1 },
		func(a *api.Alloc) { a.State = allocNew },
		func(a *api.Alloc) { a.State = 0 },
		func(a *api.Alloc) { a.State = -allocRunning },
		func(a *api.Alloc) { a.State = allocDone },
		func(a *api.Alloc) { a.State = allocFailed },
		func(a *api.Alloc) { a.State = allocEnded },
		func(a *api.Alloc) { a.State = allocLost },
		func(a *api.Alloc) { a.State = math.MaxInt },
		func(a *api.Alloc) { a.Stop = true },
		func(a *api.Alloc) { a.Index = 2 },
		func(a *api.Alloc) { a.Index = -1 },
		func(a *api.Alloc) { a.Group = 1 },
		func(a *api.Alloc) { a.Group = -1 },
	} {
		s := wanting(2)
		place(&s, 0, 0)
		change(place(&s, 0, 1))
		slots(t, s, 1, 2, 1)
	}
	s := wanting(1)
	a := place(&s, 0, 0)
	a.ID, a.Node, a.Epoch, a.Ask = math.MinInt, math.MaxInt, -1, res(-1, math.MaxInt)
	slots(t, s, 1, 1, 1)
}

// P10.4: the first one that holds a slot counts for it: behind one that runs others do nothing, not even run twice; behind one that does not run one that does does not count; those that are over hold nothing.
func TestSlotsAreToldByTheFirstHolder(t *testing.T) {
	for _, change := range []func(a *api.Alloc){
		func(a *api.Alloc) { a.Version = 1 },
		func(a *api.Alloc) { a.State = allocNew },
		func(a *api.Alloc) { a.State = 0 },
		func(a *api.Alloc) { a.Stop = true },
	} {
		ahead, after := wanting(1), wanting(1)
		change(place(&ahead, 0, 0))
		place(&ahead, 0, 0)
		place(&after, 0, 0)
		change(place(&after, 0, 0))
		slots(t, ahead, 1, 1, 0)
		slots(t, after, 1, 1, 1)
	}
	for _, state := range []int{allocDone, allocFailed, allocEnded, allocLost, math.MaxInt} {
		s := wanting(1)
		place(&s, 0, 0).State = state
		place(&s, 0, 0)
		place(&s, 0, 0).Version = 1
		slots(t, s, 1, 1, 1)
	}
	s := wanting(2)
	place(&s, 0, 0).Job = 2
	place(&s, 0, 1)
	place(&s, 0, 0)
	place(&s, 0, 0)
	place(&s, 0, 1)
	slots(t, s, 1, 2, 2)
}

// P10.4: Groups, Indexes and jobs of the least and the greatest numbers are no slots, or are, as the words say.
func TestSlotsOfFarNumbers(t *testing.T) {
	for _, n := range farNumbers() {
		s := wanting(2)
		place(&s, n, 0).ID = n
		run := 0
		if n == 0 {
			run = 1
		}
		slots(t, s, 1, 2, run)
		s = wanting(2)
		place(&s, 0, n)
		if n == 1 {
			run = 1
		}
		slots(t, s, 1, 2, run)
		s = wanting(1)
		s.Jobs[0].ID, s.Jobs[0].Version = n, n
		*place(&s, 0, 0) = api.Alloc{Job: n, Version: n, State: allocRunning}
		slots(t, s, n, 1, 1)
	}
}

// slotsAsTold is the chapter's word, slot by slot, by the test's own holder.
func slotsAsTold(s api.Store, job int) (int, int) {
	for _, j := range s.Jobs {
		if j.ID != job {
			continue
		}
		all, run := 0, 0
		for group, g := range j.Groups {
			for index := 0; index < g.Count && index < 4 && j.Type != system; index++ {
				all++
				if at := holder(s, job, group, index); at >= 0 && s.Allocs[at].Version == j.Version && s.Allocs[at].State == allocRunning && !s.Allocs[at].Stop {
					run++
				}
			}
		}
		return all, run
	}
	return 0, 0
}

// P10.4: any stores at all, whose versions, groups and indexes meet often.
func TestSlotsOfAny(t *testing.T) {
	dice := rand.New(rand.NewSource(10))
	seen := 0
	for range 20000 {
		s := anyStore(dice, 4)
		for range dice.Intn(40) {
			a := api.Alloc{Job: dice.Intn(2), Version: dice.Intn(2), Group: dice.Intn(4) - 1, Index: dice.Intn(7) - 1, State: dice.Intn(4), Stop: dice.Intn(4) == 0}
			s.Allocs = append(s.Allocs, a)
		}
		for i := range s.Jobs {
			s.Jobs[i].ID %= 2
			s.Jobs[i].Version %= 2
		}
		for job := range 3 {
			all, run := slotsAsTold(s, job)
			slots(t, s, job, all, run)
			if run > 0 && run < all {
				seen++
			}
		}
	}
	if seen < 1000 {
		t.Errorf("only %d jobs had some of their slots run", seen)
	}
}

// P10.4: very many groups and allocations, of which each slot's holder stands far behind, do not take their product in time.
func TestSlotsOfVeryMany(t *testing.T) {
	const many = 1 << 17
	s := wanting()
	for group := range many {
		s.Jobs[0].Groups = append(s.Jobs[0].Groups, api.Group{Count: 1 + group%6})
		place(&s, many-1-group, 0)
	}
	all, _ := store.Slots(s, 1)
	if all <= many {
		t.Errorf("%d slots", all)
	}
	slots(t, s, 1, all, many)
}
