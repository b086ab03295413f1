package spec_test

import (
	"math"
	"math/rand"
	"slices"
	"testing"

	"coxswain/api"
	"coxswain/spec"
)

// P6.1, the chapter's examples.
func TestExamplesOfJobs(t *testing.T) {
	example := func() api.Job {
		return api.Job{ID: 1, Type: api.JobService, Priority: 50, Parallel: 1, Groups: []api.Group{{Count: 2, Ask: res(100, 200)}}}
	}
	jobMay(t, example(), true)
	for _, change := range []func(j *api.Job){
		func(j *api.Job) { j.ID = 0 },
		func(j *api.Job) { j.Type = 4 },
		func(j *api.Job) { j.Priority = 101 },
		func(j *api.Job) { j.Parallel = 0 },
		func(j *api.Job) { j.Groups = nil },
		func(j *api.Job) { j.Groups[0].Count = 5 },
		func(j *api.Job) { j.Groups[0].Ask.CPU = -1 },
		func(j *api.Job) { j.Type = api.JobSystem },
	} {
		j := example()
		change(&j)
		jobMay(t, j, false)
	}
}

// P6.1: each number at its edges and beyond them, in jobs of each type with one group and with two; all else may be, so the second group's numbers are wrong alone too.
func TestEachNumberOfAJob(t *testing.T) {
	for _, kind := range kinds() {
		for groups := 1; groups <= 2; groups++ {
			for _, f := range jobNumbers(kind, groups) {
				for _, n := range f.edges() {
					j := goodJob(kind, groups)
					*f.of(&j) = n
					jobMay(t, j, f.mayBe(n))
				}
			}
		}
	}
}

// P6.1: the numbers of small ranges, one by one.
func TestSmallNumbersOfAJob(t *testing.T) {
	for n := -300; n <= 300; n++ {
		j := goodJob(api.JobService, 1)
		j.Priority = n
		jobMay(t, j, n >= 1 && n <= 100)

		j = goodJob(api.JobBatch, 2)
		j.Parallel = n
		jobMay(t, j, n >= 1 && n <= 8)
	}
}

// P6.1: the types that may be are just three.
func TestTypesOfJobs(t *testing.T) {
	if api.JobService != 1 || api.JobBatch != 2 || api.JobSystem != 3 {
		t.Fatal("the types have other numbers than the document's")
	}
	for kind := -300; kind <= 300; kind++ {
		jobMay(t, goodJob(kind, 1), kind == 1 || kind == 2 || kind == 3)
	}
	for _, kind := range []int{math.MinInt, math.MinInt + 1, math.MinInt + 3, math.MaxInt, 1<<32 + 1, 1<<32 + 3, 1<<40 + 2, -1 << 32, 3 - 1<<32} {
		jobMay(t, goodJob(kind, 1), false)
	}
}

// P6.1: a service and a batch job have a Count of 0 to 4 in each group, a system job 1.
func TestCounts(t *testing.T) {
	for first := -2; first <= 6; first++ {
		for second := -2; second <= 6; second++ {
			for _, kind := range kinds() {
				may := func(n int) bool { return n >= 0 && n <= 4 }
				if kind == 3 {
					may = func(n int) bool { return n == 1 }
				}
				j := goodJob(kind, 2)
				j.Groups[0].Count, j.Groups[1].Count = first, second
				jobMay(t, j, may(first) && may(second))

				j.Groups = j.Groups[:1]
				jobMay(t, j, may(first))
			}
		}
	}
}

// P6.1: 1 or 2 groups; whatever lies in the spare room behind them is not theirs.
func TestNumberOfGroups(t *testing.T) {
	for _, kind := range kinds() {
		for _, groups := range []int{0, 1, 2, 3, 4, 5, 8, 256, 257, 258, 65537, 65538} {
			jobMay(t, goodJob(kind, groups), groups == 1 || groups == 2)
		}
		j := goodJob(kind, 1)
		j.Groups = []api.Group{}
		jobMay(t, j, false)
		j.Groups = nil
		jobMay(t, j, false)

		many := goodJob(kind, 5).Groups
		for i := 2; i < len(many); i++ {
			many[i] = api.Group{Count: -1, Ask: res(-1, -1)}
		}
		j.Groups = many[:2]
		jobMay(t, j, true)
		j.Groups = many[:1]
		jobMay(t, j, true)
		j.Groups = many[:0]
		jobMay(t, j, false)
		j.Groups = many[1:3]
		jobMay(t, j, false)
	}
}

// P6.1: each way in which every number stands at one of its edges, of jobs of each type.
func TestAllNumbersOfAJobAtTheirEdges(t *testing.T) {
	for _, kind := range kinds() {
		for groups := 1; groups <= 2; groups++ {
			numbers := jobNumbers(kind, groups)
			for ways := range 1 << len(numbers) {
				j := goodJob(kind, groups)
				for i, f := range numbers {
					*f.of(&j) = f.least
					if ways>>i&1 == 1 {
						*f.of(&j) = f.most
					}
				}
				jobMay(t, j, true)
			}
		}
	}
}

// P6.1: several numbers that may not be stand no less against a job than one: two wrong ones of any kind never make a right one.
func TestTwoWrongNumbersOfAJob(t *testing.T) {
	for _, kind := range kinds() {
		numbers := jobNumbers(kind, 2)
		for i, f := range numbers {
			for _, g := range numbers[i+1:] {
				for _, n := range []int{f.least - 1, f.most + 1} {
					for _, m := range []int{g.least - 1, g.most + 1} {
						j := goodJob(kind, 2)
						*f.of(&j), *g.of(&j) = n, m
						jobMay(t, j, false)
					}
				}
			}
		}
	}
}

// P6.1: any numbers at all, edges above all, against what the numbers say one by one.
func TestJobsOfAnyNumbers(t *testing.T) {
	dice := rand.New(rand.NewSource(6))
	for range 100000 {
		kind, groups := dice.Intn(5), dice.Intn(4)
		j := goodJob(kind, groups)
		may := kind >= 1 && kind <= 3 && groups >= 1 && groups <= 2
		for _, f := range jobNumbers(kind, groups) {
			if dice.Intn(3) == 0 {
				edges := f.edges()
				n := edges[dice.Intn(len(edges))]
				*f.of(&j) = n
				may = may && f.mayBe(n)
			}
		}
		j.Version, j.Stopped = int(dice.Uint64()), dice.Intn(2) == 0
		jobMay(t, j, may)
	}
}

// P6.1: Version and Stopped are not looked at, be the job one that may be or not.
func TestNotLookedAtInAJob(t *testing.T) {
	for _, version := range []int{math.MinInt, -1, 0, 1, 2, 1 << 40, 1<<40 + 1, 1<<60 + 1, math.MaxInt} {
		for _, stopped := range []bool{false, true} {
			for _, kind := range kinds() {
				j := goodJob(kind, 2)
				j.Version, j.Stopped = version, stopped
				jobMay(t, j, true)
				j.Groups[1].Ask.Mem = -1
				jobMay(t, j, false)
			}
			jobMay(t, api.Job{Version: version, Stopped: stopped}, false)
		}
	}
}

// P6.1, R1: jobs of which nothing is set, or all is the least or the greatest number that there is.
func TestJobsFarOff(t *testing.T) {
	jobMay(t, api.Job{}, false)
	jobMay(t, api.Job{Groups: []api.Group{}}, false)
	jobMay(t, api.Job{Groups: []api.Group{{}}}, false)
	jobMay(t, api.Job{Groups: make([]api.Group, 2)}, false)
	jobMay(t, api.Job{ID: 1, Type: 1, Priority: 1, Parallel: 1, Groups: make([]api.Group, 1)}, true)
	jobMay(t, api.Job{ID: 1, Type: 1, Priority: 1, Parallel: 1, Groups: make([]api.Group, 2)}, true)
	jobMay(t, api.Job{ID: 1, Type: 1, Priority: 1, Parallel: 1, Groups: make([]api.Group, 3)}, false)
	jobMay(t, api.Job{ID: 1, Type: 3, Priority: 1, Parallel: 1, Groups: make([]api.Group, 1)}, false)
	jobMay(t, api.Job{ID: 1, Type: 1, Priority: 1, Parallel: 1, Groups: make([]api.Group, 1<<20)}, false)
	for _, n := range []int{math.MinInt, math.MaxInt, -1} {
		g := api.Group{Count: n, Ask: res(n, n)}
		for _, groups := range [][]api.Group{nil, {g}, {g, g}, {g, g, g}} {
			jobMay(t, api.Job{ID: n, Type: n, Priority: n, Parallel: n, Groups: groups, Version: n, Stopped: true}, false)
		}
	}
}

// R4: what is handed in is not changed, its spare room neither.
func TestJobChangesNothing(t *testing.T) {
	for _, kind := range []int{0, 1, 2, 3, 4} {
		for _, count := range []int{-1, 0, 1, 4, 5} {
			groups := []api.Group{{Count: count, Ask: res(1, 2)}, {Count: 1, Ask: res(3, 1<<50)}, {Count: 9, Ask: res(-5, 6)}, {}}
			before := slices.Clone(groups)
			for n := range groups {
				spec.Job(api.Job{ID: 1, Type: kind, Priority: 1, Parallel: 1, Groups: groups[:n]})
			}
			if !slices.Equal(groups, before) {
				t.Errorf("the groups are %v, not %v", groups, before)
			}
		}
	}
}

// R5: what is answered hangs on no job that was asked before.
func TestJobsOneBehindTheOther(t *testing.T) {
	for range 3 {
		for _, kind := range kinds() {
			jobMay(t, goodJob(kind, 2), true)
			jobMay(t, api.Job{}, false)
			jobMay(t, goodJob(kind, 1), true)
			jobMay(t, goodJob(kind, 3), false)
			nodeMay(t, goodNode(), true)
			nodeMay(t, api.Node{}, false)
		}
	}
}
