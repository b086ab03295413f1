package spec_test

import (
	"math"
	"slices"
	"testing"

	"coxswain/api"
	"coxswain/spec"
)

// number is one number of a record T, and from which one up to which one it may be.
type number[T any] struct {
	name        string
	of          func(x *T) *int
	least, most int
}

func (f number[T]) mayBe(n int) bool { return f.least <= n && n <= f.most }

// edges are the least and the greatest ones that may be, and those beside them; the least and the greatest of the type; and those that are within when they are cut to fewer bits, or when their sign is lost.
func (f number[T]) edges() []int {
	out := []int{f.least - 1, f.least, f.least + 1, f.most - 1, f.most, f.most + 1, math.MinInt, math.MinInt + 1, math.MaxInt - 1, math.MaxInt, 0, -1, 1}
	for _, bits := range []int{8, 16, 31, 32, 40, 41, 48, 62} {
		out = append(out, f.least+1<<bits, f.most+1<<bits, f.least-1<<bits, f.most-1<<bits)
	}
	out = append(out, -f.least, -f.most, f.least+math.MinInt, f.most+math.MinInt)
	slices.Sort(out)
	return slices.Compact(out)
}

// jobNumbers are those of a job with so many groups, the numbers of each group among them.
func jobNumbers(kind, groups int) []number[api.Job] {
	out := []number[api.Job]{
		{"ID", func(j *api.Job) *int { return &j.ID }, 1, 1 << 40},
		{"Priority", func(j *api.Job) *int { return &j.Priority }, 1, 100},
		{"Parallel", func(j *api.Job) *int { return &j.Parallel }, 1, 8},
	}
	least, most := 0, 4
	if kind == api.JobSystem {
		least, most = 1, 1
	}
	for i := range groups {
		out = append(out,
			number[api.Job]{"Count", func(j *api.Job) *int { return &j.Groups[i].Count }, least, most},
			number[api.Job]{"CPU", func(j *api.Job) *int { return &j.Groups[i].Ask.CPU }, 0, 1 << 40},
			number[api.Job]{"Mem", func(j *api.Job) *int { return &j.Groups[i].Ask.Mem }, 0, 1 << 40})
	}
	return out
}

func nodeNumbers() []number[api.Node] {
	return []number[api.Node]{
		{"ID", func(n *api.Node) *int { return &n.ID }, 1, 4},
		{"CPU", func(n *api.Node) *int { return &n.Cap.CPU }, 0, 1 << 40},
		{"Mem", func(n *api.Node) *int { return &n.Cap.Mem }, 0, 1 << 40},
		{"Boot", func(n *api.Node) *int { return &n.Boot }, 1, 1 << 40},
	}
}

// kinds are the types that a job may have, by the document's numbers.
func kinds() []int { return []int{1, 2, 3} }

// goodJob is one that may be: with Count 1, that a job of each type may have.
func goodJob(kind, groups int) api.Job {
	j := api.Job{ID: 7, Type: kind, Priority: 50, Parallel: 2}
	for i := range groups {
		j.Groups = append(j.Groups, api.Group{Count: 1, Ask: api.Res{CPU: 100 + i, Mem: 200 + i}})
	}
	return j
}

func goodNode() api.Node {
	return api.Node{ID: 2, Cap: api.Res{CPU: 100, Mem: 50}, Boot: 3}
}

func jobMay(t *testing.T, j api.Job, may bool) {
	t.Helper()
	want := api.ErrJob
	if may {
		want = api.OK
	}
	if e := spec.Job(j); e != want {
		t.Errorf("Job(%+v): %d, not %d", j, e, want)
	}
}

func nodeMay(t *testing.T, n api.Node, may bool) {
	t.Helper()
	want := api.ErrNode
	if may {
		want = api.OK
	}
	if e := spec.Node(n); e != want {
		t.Errorf("Node(%+v): %d, not %d", n, e, want)
	}
}

func adds(t *testing.T, a, b, want api.Res) {
	t.Helper()
	if sum, ok := spec.Add(a, b); !ok || sum != want {
		t.Errorf("Add(%v, %v): %v, %v; not %v", a, b, sum, ok, want)
	}
}

func addsNot(t *testing.T, a, b api.Res) {
	t.Helper()
	if sum, ok := spec.Add(a, b); ok || sum != (api.Res{}) {
		t.Errorf("Add(%v, %v): %v, %v", a, b, sum, ok)
	}
}

func fits(t *testing.T, used, ask, most api.Res, want bool) {
	t.Helper()
	if spec.Fits(used, ask, most) != want {
		t.Errorf("Fits(%v, %v, %v): not %v", used, ask, most, want)
	}
}

func res(cpu, mem int) api.Res { return api.Res{CPU: cpu, Mem: mem} }
