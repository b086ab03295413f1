package diff_test

import (
	"math"
	"math/rand"
	"slices"
	"testing"

	"coxswain/api"
	"coxswain/diff"
)

// The numbers of the document, said once more, so that the tests do not lean on the names.
const (
	allocNew     = 1
	allocRunning = 2
	allocDone    = 3
	allocFailed  = 4
	allocEnded   = 5
	allocLost    = 6

	service = 1
	batch   = 2
	system  = 3

	mostCount = 4
)

// example is the chapter's store.
func example() api.Store {
	return api.Store{Jobs: []api.Job{job(service, 2)}, Allocs: []api.Alloc{at(5, 0, 0, 1), at(6, 0, 1, 1)}}
}

// job is the job 1, of Version 2 and Parallel 1, with a group of each count.
func job(kind int, counts ...int) api.Job {
	j := api.Job{ID: 1, Type: kind, Priority: 50, Parallel: 1, Version: 2}
	for _, count := range counts {
		j.Groups = append(j.Groups, api.Group{Count: count})
	}
	return j
}

// parallel is the job with another Parallel.
func parallel(j api.Job, most int) api.Job {
	j.Parallel = most
	return j
}

// at is an allocation of the job 1 that runs in a slot, on the node 7.
func at(id, group, index, version int) api.Alloc {
	return api.Alloc{ID: id, Job: 1, Group: group, Index: index, Version: version, Node: 7, State: allocRunning}
}

// in is the allocation in another State.
func in(state int, a api.Alloc) api.Alloc {
	a.State = state
	return a
}

// toStop is the allocation, to Stop already.
func toStop(a api.Alloc) api.Alloc {
	a.Stop = true
	return a
}

// on is the allocation on another node.
func on(node int, a api.Alloc) api.Alloc {
	a.Node = node
	return a
}

// of is the store of a job and its allocations.
func of(j api.Job, allocs ...api.Alloc) api.Store {
	return api.Store{Jobs: []api.Job{j}, Allocs: allocs}
}

// with is the store with these nodes.
func with(s api.Store, nodes ...api.Node) api.Store {
	s.Nodes = nodes
	return s
}

func up(id int) api.Node      { return api.Node{ID: id, Up: true} }
func gone(id int) api.Node    { return api.Node{ID: id} }
func drained(id int) api.Node { return api.Node{ID: id, Up: true, Drain: true} }

// goneDrained is a node that is neither up nor to be filled.
func goneDrained(id int) api.Node { return api.Node{ID: id, Drain: true} }

// ids are the IDs of allocations.
func ids(list ...int) []int { return list }

// fill are slots, told by group and index, one behind the other.
func fill(numbers ...int) []diff.Slot {
	var out []diff.Slot
	for pair := range slices.Chunk(numbers, 2) {
		out = append(out, diff.Slot{Group: pair[0], Index: pair[1]})
	}
	return out
}

// is holds it what is told of the job 1.
func is(t *testing.T, s api.Store, stops []int, empty []diff.Slot) {
	t.Helper()
	isOf(t, s, 1, stops, empty)
}

func isOf(t *testing.T, s api.Store, job int, stops []int, empty []diff.Slot) {
	t.Helper()
	a, b := diff.Diff(s, job)
	if !slices.Equal(a, stops) || !slices.Equal(b, empty) {
		t.Errorf("Diff(%d): stop %v, fill %v; not %v, %v; of %+v, %+v, %+v", job, a, b, stops, empty, s.Jobs, s.Nodes, s.Allocs)
	}
}

// farNumbers are the least and the greatest of the type, those beside what may be, and those that are small when they are cut to fewer bits.
func farNumbers() []int {
	out := []int{math.MinInt, math.MinInt + 1, -1 << 40, -2, -1, 0, 1, 2, 3, 4, 5, 6, 7, 1 << 40, 1<<40 + 1, 1 << 62, math.MaxInt - 1, math.MaxInt}
	for _, bits := range []int{8, 16, 32} {
		out = append(out, 1<<bits, 1<<bits+1, 1-1<<bits)
	}
	return out
}

// anyNumber is mostly a small one, so that they meet; now and then one that is far.
func anyNumber(dice *rand.Rand, most int) int {
	if dice.Intn(60) == 0 {
		far := farNumbers()
		return far[dice.Intn(len(far))]
	}
	return dice.Intn(most)
}

// often is true in so many of ten cases.
func often(dice *rand.Rand, cases int) bool { return dice.Intn(10) < cases }

func anyJob(dice *rand.Rand) api.Job {
	j := api.Job{ID: anyNumber(dice, 3), Type: anyNumber(dice, 5), Parallel: anyNumber(dice, 5), Version: anyNumber(dice, 3), Stopped: often(dice, 1)}
	for range dice.Intn(4) {
		j.Groups = append(j.Groups, api.Group{Count: anyNumber(dice, 7) - 1})
	}
	return j
}

func anyNode(dice *rand.Rand) api.Node {
	return api.Node{ID: anyNumber(dice, 6), Up: often(dice, 8), Drain: often(dice, 2)}
}

func anyAlloc(dice *rand.Rand) api.Alloc {
	return api.Alloc{
		ID: anyNumber(dice, 100), Job: anyNumber(dice, 3), Version: anyNumber(dice, 3), Group: anyNumber(dice, 3), Index: anyNumber(dice, 5),
		Node: anyNumber(dice, 6), Epoch: dice.Intn(3), Stop: often(dice, 2), State: anyNumber(dice, 5),
	}
}

// anyStore has jobs of every kind, some of one ID, with nodes and allocations in any order and in any State.
func anyStore(dice *rand.Rand) api.Store {
	var s api.Store
	for range dice.Intn(4) {
		s.Jobs = append(s.Jobs, anyJob(dice))
	}
	for range dice.Intn(6) {
		s.Nodes = append(s.Nodes, anyNode(dice))
	}
	for range dice.Intn(14) {
		s.Allocs = append(s.Allocs, anyAlloc(dice))
	}
	return s
}
