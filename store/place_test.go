package store_test

import (
	"math"
	"testing"

	"coxswain/api"
	"coxswain/store"
)

// P10.2: over are just the states from AllocDone on, whatever else the allocation has.
func TestOver(t *testing.T) {
	for state, over := range map[int]bool{
		allocNew: false, allocRunning: false, allocDone: true, allocFailed: true, allocEnded: true, allocLost: true,
		0: false, -1: false, 7: true, 100: true, 1<<32 + 2: true, -1 << 40: false,
		math.MinInt: false, math.MinInt + 3: false, math.MaxInt: true,
	} {
		for _, a := range []api.Alloc{{}, {ID: 5, Job: 5, Version: 5, Group: 5, Index: 5, Node: 5, Epoch: 5, Ask: res(5, 5), Stop: true}, {ID: -1, Epoch: math.MaxInt}} {
			a.State = state
			if store.Over(a) != over {
				t.Errorf("Over of the state %d: not %v", state, over)
			}
		}
	}
}

// kind is one of the six lists: how its places are asked, and how a store has one that is told by these numbers, all other numbers of it being others.
type kind struct {
	name string
	ask  func(s api.Store, n int) int
	with func(numbers []int, other int) api.Store
}

// parts makes a part for each number.
func parts[T any](numbers []int, make func(n int) T) []T {
	var out []T
	for _, n := range numbers {
		out = append(out, make(n))
	}
	return out
}

func kinds() []kind {
	jobOf := func(o int) func(n int) api.Job {
		return func(n int) api.Job {
			return api.Job{ID: n, Type: o, Priority: o, Parallel: o, Version: o, Groups: []api.Group{{Count: o}}}
		}
	}
	return []kind{
		{"Job", store.Job, func(numbers []int, o int) api.Store { return api.Store{Jobs: parts(numbers, jobOf(o))} }},
		{"Stable", store.Stable, func(numbers []int, o int) api.Store { return api.Store{Stable: parts(numbers, jobOf(o))} }},
		{"Node", store.Node, func(numbers []int, o int) api.Store {
			return api.Store{Nodes: parts(numbers, func(n int) api.Node { return api.Node{ID: n, Cap: res(o, o), Boot: o, Epoch: o, Seq: o} })}
		}},
		{"Alloc", store.Alloc, func(numbers []int, o int) api.Store {
			return api.Store{Allocs: parts(numbers, func(n int) api.Alloc {
				return api.Alloc{ID: n, Job: o, Version: o, Group: o, Index: o, Node: o, Epoch: o, Ask: res(o, o), State: o}
			})}
		}},
		{"Eval", store.Eval, func(numbers []int, o int) api.Store {
			return api.Store{Evals: parts(numbers, func(n int) api.Eval { return api.Eval{Job: n, Priority: o, State: o, Index: o} })}
		}},
		{"Deploy", store.Deploy, func(numbers []int, o int) api.Store {
			return api.Store{Deploys: parts(numbers, func(n int) api.Deploy { return api.Deploy{Job: n, Version: o, State: o, Index: o} })}
		}},
	}
}

// together lays the lists of stores into one.
func together(stores ...api.Store) api.Store {
	var out api.Store
	for _, s := range stores {
		out.Jobs = append(out.Jobs, s.Jobs...)
		out.Stable = append(out.Stable, s.Stable...)
		out.Nodes = append(out.Nodes, s.Nodes...)
		out.Allocs = append(out.Allocs, s.Allocs...)
		out.Evals = append(out.Evals, s.Evals...)
		out.Deploys = append(out.Deploys, s.Deploys...)
	}
	return out
}

func (k kind) at(t *testing.T, s api.Store, n, want int) {
	t.Helper()
	if got := k.ask(s, n); got != want {
		t.Errorf("%s(%d): %d; not %d, of %+v", k.name, n, got, want, s)
	}
}

// P10.2: of each list, the number first, last, between, twice, thrice, and not there, in lists that rise and in ones that do not.
func TestPlaces(t *testing.T) {
	for _, k := range kinds() {
		for _, x := range []struct {
			numbers []int
			n, want int
		}{
			{nil, 7, -1}, {[]int{}, 7, -1}, {nil, 0, -1}, {[]int{7}, 7, 0}, {[]int{6}, 7, -1},
			{[]int{7, 8, 9}, 7, 0}, {[]int{5, 6, 7}, 7, 2}, {[]int{6, 7, 8}, 7, 1}, {[]int{5, 6, 8}, 7, -1}, {[]int{5, 6}, 7, -1}, {[]int{8, 9}, 7, -1},
			{[]int{9, 8, 7}, 7, 2}, {[]int{7, 5, 3}, 7, 0}, {[]int{9, 1, 7, 8, 2}, 7, 2}, {[]int{9, 1, 8, 2}, 7, -1},
			{[]int{7, 7}, 7, 0}, {[]int{1, 7, 7}, 7, 1}, {[]int{7, 1, 7}, 7, 0}, {[]int{1, 7, 3, 7, 9, 7}, 7, 1},
			{[]int{1, 2, 3, 4, 5, 6, 8, 9, 10, 7}, 7, 9},
		} {
			k.at(t, k.with(x.numbers, 1000), x.n, x.want)
			k.at(t, k.with(x.numbers, x.n), x.n, x.want)
		}
	}
}

// P10.2: the number counts in its own field alone, and in its own list alone.
func TestPlacesInTheirOwnListAlone(t *testing.T) {
	for i, k := range kinds() {
		s := k.with([]int{1, 2, 3}, 7)
		k.at(t, s, 7, -1)
		for j, other := range kinds() {
			if j != i {
				other.at(t, s, 1, -1)
				other.at(t, s, 7, -1)
				s = together(s, other.with([]int{7, 2, 1, 7}, 9))
			}
		}
		s.Index, s.Next = 7, 7
		s.Seen = []api.Seen{{Client: 7, Req: 7, Answer: api.Result{Value: 7, Allocs: []api.Alloc{{ID: 7, Job: 7}}}}}
		k.at(t, s, 7, -1)
		k.at(t, s, 2, 1)
	}
}

// P10.2: a place is told whatever else is there: Stopped jobs, nodes that are not up, allocations that are over.
func TestPlacesOfAllStates(t *testing.T) {
	s := api.Store{
		Jobs:    []api.Job{{ID: 1, Stopped: true}, {ID: 1}, {ID: 2, Type: system, Stopped: true}},
		Stable:  []api.Job{{ID: 1, Stopped: true}, {ID: 1}, {ID: 2, Type: system, Stopped: true}},
		Nodes:   []api.Node{{ID: 1, Drain: true}, {ID: 1, Up: true}, {ID: 2, Up: true, Drain: true}},
		Allocs:  []api.Alloc{{ID: 1, State: allocLost}, {ID: 1, State: allocRunning}, {ID: 2, State: allocDone, Stop: true}},
		Evals:   []api.Eval{{Job: 1, State: api.EvalDone}, {Job: 1, State: api.EvalPending}, {Job: 2, State: api.EvalBlocked}},
		Deploys: []api.Deploy{{Job: 1, State: api.DeployFailed}, {Job: 1, State: api.DeployRunning}, {Job: 2, State: api.DeployDone}},
	}
	for _, k := range kinds() {
		k.at(t, s, 1, 0)
		k.at(t, s, 2, 2)
		k.at(t, s, 0, -1)
	}
}

// P10.2: the least and the greatest numbers, and those that are others when they are cut to fewer bits, are numbers like any.
func TestPlacesOfFarNumbers(t *testing.T) {
	far := farNumbers()
	for _, k := range kinds() {
		s := k.with(far, 1000)
		for i, n := range far {
			k.at(t, s, n, i)
			k.at(t, k.with(nil, 0), n, -1)
			k.at(t, k.with(far[:i], n), n, -1)
			k.at(t, k.with(far[i+1:], n), n, -1)
		}
	}
}
