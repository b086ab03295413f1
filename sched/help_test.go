package sched_test

import (
	"math"
	"math/rand"
	"slices"
	"testing"

	"coxswain/api"
	"coxswain/sched"
)

// The numbers of the document, said once more, so that the tests do not lean on the names.
const (
	ok      = api.Errno(0)
	errPlan = api.Errno(34)

	cmdSubmit   = 3
	cmdCancel   = 4
	cmdRegister = 5
	cmdBeat     = 6
	cmdDown     = 7
	cmdDrain    = 8
	cmdPlan     = 9
	cmdRevert   = 10

	service = 1
	batch   = 2
	system  = 3

	allocNew     = 1
	allocRunning = 2
	allocDone    = 3
	allocFailed  = 4
	allocEnded   = 5
	allocLost    = 6

	evalPending = 1
	evalBlocked = 2
	evalDone    = 3

	maxAllocs = 64
	top       = 1 << 60
)

func res(cpu, mem int) api.Res { return api.Res{CPU: cpu, Mem: mem} }

func group(count, cpu, mem int) api.Group { return api.Group{Count: count, Ask: res(cpu, mem)} }

// job is the job 1, of Version 2 and Parallel 1.
func job(kind int, groups ...api.Group) api.Job {
	return api.Job{ID: 1, Type: kind, Priority: 50, Parallel: 1, Version: 2, Groups: groups}
}

// up is a node that takes tasks; its Epoch is none of its other numbers.
func up(id, cpu, mem int) api.Node {
	return api.Node{ID: id, Cap: res(cpu, mem), Up: true, Boot: 70 + id, Epoch: 30 + id, Seq: 80 + id}
}

// drained is a node that is up and takes none.
func drained(id, cpu, mem int) api.Node {
	n := up(id, cpu, mem)
	n.Drain = true
	return n
}

// gone is a node that is not up.
func gone(id, cpu, mem int) api.Node {
	n := up(id, cpu, mem)
	n.Up = false
	return n
}

// at is an allocation of the job 1 that runs in a slot and asks for nothing, on a node that there is not.
func at(id, group, index, version int) api.Alloc {
	return api.Alloc{ID: id, Job: 1, Group: group, Index: index, Version: version, Node: 77, State: allocRunning}
}

// on is the allocation on a node, with a demand.
func on(node, cpu, mem int, a api.Alloc) api.Alloc {
	a.Node, a.Ask = node, res(cpu, mem)
	return a
}

// in is the allocation in another State.
func in(state int, a api.Alloc) api.Alloc {
	a.State = state
	return a
}

// toStop is the allocation, to Stop already.
func toStop(a api.Alloc) api.Alloc {
	a.Stop = true
	return a
}

// other is an allocation of another job that runs on a node.
func other(node, cpu, mem int) api.Alloc {
	return api.Alloc{ID: 900, Job: 9, Node: node, Ask: res(cpu, mem), State: allocRunning}
}

// of is the store of a job, with an Eval, and nodes.
func of(j api.Job, nodes ...api.Node) api.Store {
	return api.Store{Jobs: []api.Job{j}, Nodes: nodes, Evals: []api.Eval{{Job: j.ID, Priority: 50, State: evalPending, Index: 41}}}
}

// with is the store with these allocations more.
func with(s api.Store, allocs ...api.Alloc) api.Store {
	s.Allocs = append(slices.Clip(s.Allocs), allocs...)
	return s
}

// ids are the IDs of allocations.
func ids(list ...int) []int { return list }

// fill are places of the job 1 as it stands, told by group, index and node, one behind the other.
func fill(s api.Store, numbers ...int) []api.Alloc {
	j := s.Jobs[slices.IndexFunc(s.Jobs, func(j api.Job) bool { return j.ID == 1 })]
	var out []api.Alloc
	for three := range slices.Chunk(numbers, 3) {
		n := s.Nodes[slices.IndexFunc(s.Nodes, func(n api.Node) bool { return n.ID == three[2] })]
		out = append(out, api.Alloc{Job: 1, Version: j.Version, Group: three[0], Index: three[1], Node: n.ID, Epoch: n.Epoch, Ask: j.Groups[three[0]].Ask})
	}
	return out
}

// alike tells whether two plans are the same; a list of none is the same as nil.
func alike(a, b api.Plan) bool {
	return a.Job == b.Job && a.Version == b.Version && a.Index == b.Index && slices.Equal(a.Stops, b.Stops) && slices.Equal(a.Places, b.Places) && a.Blocked == b.Blocked
}

func plan(t *testing.T, s api.Store, job int, want api.Plan) {
	t.Helper()
	if got := sched.Plan(s, job); !alike(got, want) {
		t.Errorf("Plan(%d):\n%+v\nnot\n%+v\nof %+v", job, got, want, s)
	}
}

// is holds it what the plan for the job 1 has, in a store as of made it.
func is(t *testing.T, s api.Store, stops []int, places []api.Alloc, blocked bool) {
	t.Helper()
	plan(t, s, 1, api.Plan{Job: 1, Version: 2, Index: 41, Stops: stops, Places: places, Blocked: blocked})
}

// fills holds it that the plan for the job 1 only fills these slots.
func fills(t *testing.T, s api.Store, numbers ...int) {
	t.Helper()
	is(t, s, nil, fill(s, numbers...), false)
}

// blocks holds it that the plan for the job 1 only fills these slots, and that there are others without a node.
func blocks(t *testing.T, s api.Store, numbers ...int) {
	t.Helper()
	is(t, s, nil, fill(s, numbers...), true)
}

// farNumbers are the least and the greatest of the type, those at the edges of what may be, and those that are small when they are cut to fewer bits.
func farNumbers() []int {
	return []int{math.MinInt, math.MinInt + 1, -top, -1, 0, 1, 2, 4, 5, 1<<32 + 1, 1 << 40, 1<<40 + 1, top - 1, top, top + 1, 1 << 62, math.MaxInt - 1, math.MaxInt}
}

// anyNumber is mostly one below most, so that numbers meet; now and then one that is far.
func anyNumber(dice *rand.Rand, most int) int {
	if dice.Intn(60) == 0 {
		far := farNumbers()
		return far[dice.Intn(len(far))]
	}
	return dice.Intn(most)
}

// often is true in so many of ten cases.
func often(dice *rand.Rand, cases int) bool { return dice.Intn(10) < cases }

func anyRes(dice *rand.Rand, most int) api.Res {
	return res(anyNumber(dice, most), anyNumber(dice, most))
}

func anyJob(dice *rand.Rand) api.Job {
	j := api.Job{ID: anyNumber(dice, 3), Type: anyNumber(dice, 5), Priority: dice.Intn(100), Parallel: anyNumber(dice, 5), Version: anyNumber(dice, 3), Stopped: often(dice, 1)}
	for range dice.Intn(4) {
		j.Groups = append(j.Groups, api.Group{Count: anyNumber(dice, 7) - 1, Ask: anyRes(dice, 9)})
	}
	return j
}

func anyNode(dice *rand.Rand) api.Node {
	return api.Node{
		ID: anyNumber(dice, 6), Cap: anyRes(dice, 40), Up: often(dice, 9), Drain: often(dice, 1),
		Boot: dice.Intn(9), Epoch: anyNumber(dice, 9), Seq: dice.Intn(9),
	}
}

func anyAlloc(dice *rand.Rand) api.Alloc {
	return api.Alloc{
		ID: anyNumber(dice, 100), Job: anyNumber(dice, 3), Version: anyNumber(dice, 3), Group: anyNumber(dice, 3), Index: anyNumber(dice, 5),
		Node: anyNumber(dice, 6), Epoch: dice.Intn(9), Ask: anyRes(dice, 9), Stop: often(dice, 2), State: anyNumber(dice, 5),
	}
}

// anyStore has jobs of every kind, nodes and evaluations, some of one number, with allocations in any order and in any State.
func anyStore(dice *rand.Rand) api.Store {
	var s api.Store
	for range dice.Intn(5) {
		s.Jobs = append(s.Jobs, anyJob(dice))
	}
	for range dice.Intn(7) {
		s.Nodes = append(s.Nodes, anyNode(dice))
	}
	for range dice.Intn(9) {
		s.Allocs = append(s.Allocs, anyAlloc(dice))
	}
	for range dice.Intn(5) {
		s.Evals = append(s.Evals, api.Eval{Job: anyNumber(dice, 3), Priority: dice.Intn(100), State: anyNumber(dice, 5), Index: anyNumber(dice, 99)})
	}
	return s
}
