package fit_test

import (
	"math"
	"math/big"
	"math/rand"
	"slices"
	"testing"

	"coxswain/api"
	"coxswain/fit"
)

// The numbers of the document, said once more, so that the tests do not lean on the names.
const (
	allocNew     = 1
	allocRunning = 2
	allocDone    = 3
	allocFailed  = 4
	allocEnded   = 5
	allocLost    = 6

	top = 1 << 60
)

func res(cpu, mem int) api.Res { return api.Res{CPU: cpu, Mem: mem} }

// up is a node that takes tasks.
func up(id, cpu, mem int) api.Node { return api.Node{ID: id, Up: true, Cap: res(cpu, mem)} }

// drained is a node that is up and takes none.
func drained(id, cpu, mem int) api.Node {
	n := up(id, cpu, mem)
	n.Drain = true
	return n
}

// gone is a node that is not up.
func gone(id, cpu, mem int) api.Node { return api.Node{ID: id, Cap: res(cpu, mem)} }

func nodes(list ...api.Node) api.Store { return api.Store{Nodes: list} }

// on is an allocation that runs on a node.
func on(node, cpu, mem int) api.Alloc {
	return api.Alloc{Node: node, Ask: res(cpu, mem), State: allocRunning}
}

// with is the store with these allocations more.
func with(s api.Store, allocs ...api.Alloc) api.Store {
	s.Allocs = append(slices.Clip(s.Allocs), allocs...)
	return s
}

// example is the chapter's store.
func example() api.Store {
	return nodes(up(1, 100, 50), up(2, 60, 50), drained(3, 60, 50))
}

func may(t *testing.T, s api.Store, more []api.Alloc, node int, ask api.Res, want bool) {
	t.Helper()
	if fit.May(s, more, node, ask) != want {
		t.Errorf("May(%d, %v): not %v, of %+v with %+v, and %+v", node, ask, want, s.Nodes, s.Allocs, more)
	}
}

func best(t *testing.T, s api.Store, more []api.Alloc, ask api.Res, want int) {
	t.Helper()
	if id, ok := fit.Best(s, more, ask); id != want || !ok {
		t.Errorf("Best(%v): %d, %v; not %d, of %+v with %+v, and %+v", ask, id, ok, want, s.Nodes, s.Allocs, more)
	}
}

func bestNone(t *testing.T, s api.Store, more []api.Alloc, ask api.Res) {
	t.Helper()
	if id, ok := fit.Best(s, more, ask); id != 0 || ok {
		t.Errorf("Best(%v): %d, %v; there is none, of %+v with %+v, and %+v", ask, id, ok, s.Nodes, s.Allocs, more)
	}
}

// farNumbers are the least and the greatest of the type, those at the edge of what may be added, and those that are small when they are cut to fewer bits.
func farNumbers() []int {
	out := []int{math.MinInt, math.MinInt + 1, -top, -1, 0, 1, 1 << 40, top/2 - 1, top / 2, top - 1, top, top + 1, 1 << 62, math.MaxInt - 1, math.MaxInt}
	for _, bits := range []int{8, 16, 32} {
		out = append(out, 1<<bits+1, 1-1<<bits)
	}
	return out
}

// anyNumber is mostly one below most, so that numbers meet; now and then one that is far.
func anyNumber(dice *rand.Rand, most int) int {
	if dice.Intn(40) == 0 {
		far := farNumbers()
		return far[dice.Intn(len(far))]
	}
	return dice.Intn(most)
}

func anyRes(dice *rand.Rand, most int) api.Res {
	return res(anyNumber(dice, most), anyNumber(dice, most))
}

// anyAllocs are at most so many, on few nodes, in any State.
func anyAllocs(dice *rand.Rand, most int) []api.Alloc {
	var out []api.Alloc
	for range dice.Intn(most + 1) {
		out = append(out, api.Alloc{
			ID: dice.Intn(6), Job: dice.Intn(6), Version: dice.Intn(6), Group: dice.Intn(6), Index: dice.Intn(6), Epoch: dice.Intn(6),
			Node: anyNumber(dice, 6), Ask: anyRes(dice, 8), Stop: dice.Intn(2) == 0, State: anyNumber(dice, 8),
		})
	}
	return out
}

// anyStore has nodes in any order, some of one ID, and some with nearly nothing or with more than may be added.
func anyStore(dice *rand.Rand) api.Store {
	s := api.Store{Allocs: anyAllocs(dice, 7)}
	for range dice.Intn(7) {
		s.Nodes = append(s.Nodes, api.Node{
			ID: anyNumber(dice, 6), Cap: anyRes(dice, 24), Up: dice.Intn(6) > 0, Drain: dice.Intn(6) == 0,
			Boot: dice.Intn(6), Epoch: dice.Intn(6), Seq: dice.Intn(6),
		})
	}
	return s
}

// sum is CPU and Mem in numbers that do not wrap round.
type sum [2]*big.Int

func wide(r api.Res) sum {
	return sum{big.NewInt(int64(r.CPU)), big.NewInt(int64(r.Mem))}
}

func (a sum) plus(b sum) sum {
	return sum{new(big.Int).Add(a[0], b[0]), new(big.Int).Add(a[1], b[1])}
}

func (a sum) within(least, most sum) bool {
	return a[0].Cmp(least[0]) >= 0 && a[1].Cmp(least[1]) >= 0 && a[0].Cmp(most[0]) <= 0 && a[1].Cmp(most[1]) <= 0
}

// total is all of these together, and whether they can be added.
func total(parts ...sum) (sum, bool) {
	none, most := wide(res(0, 0)), wide(res(top, top))
	out := none
	for _, p := range parts {
		out = out.plus(p)
		if !p.within(none, most) || !out.within(none, most) {
			return none, false
		}
	}
	return out, true
}

// leaves is the words of P12.1 and P12.2 once more: what a demand leaves on the first node of this ID; nil: it may not be placed there.
func leaves(s api.Store, more []api.Alloc, id int, ask api.Res) *big.Int {
	at := slices.IndexFunc(s.Nodes, func(n api.Node) bool { return n.ID == id })
	if at < 0 || !s.Nodes[at].Up || s.Nodes[at].Drain {
		return nil
	}
	var stored []sum
	for _, a := range s.Allocs {
		if a.Node == id && a.State < allocDone {
			stored = append(stored, wide(a.Ask))
		}
	}
	used, ok := total(stored...)
	if !ok {
		used = wide(res(top, top))
	}
	parts := []sum{used}
	for _, a := range more {
		if a.Node == id {
			parts = append(parts, wide(a.Ask))
		}
	}
	all, ok := total(append(parts, wide(ask))...)
	if !ok || !all.within(wide(res(0, 0)), wide(s.Nodes[at].Cap)) {
		return nil
	}
	have := wide(s.Nodes[at].Cap)
	out := new(big.Int).Add(have[0], have[1])
	return out.Sub(out, new(big.Int).Add(all[0], all[1]))
}

// bestOf is the words of P12.2 once more: the IDs are gone through from the least on, so of several the first is taken.
func bestOf(s api.Store, more []api.Alloc, ask api.Res) (int, bool) {
	var ids []int
	for _, n := range s.Nodes {
		ids = append(ids, n.ID)
	}
	slices.Sort(ids)
	id, least := 0, (*big.Int)(nil)
	for _, i := range ids {
		left := leaves(s, more, i, ask)
		if left != nil && (least == nil || left.Cmp(least) < 0) {
			id, least = i, left
		}
	}
	return id, least != nil
}
