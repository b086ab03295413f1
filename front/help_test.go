package front_test

import (
	"math"
	"reflect"
	"testing"

	"coxswain/api"
	"coxswain/front"
)

// The numbers of the document, said once more, so that the tests do not lean on the names.
const (
	maxWait = 64
	maxDone = 256

	ok      = api.Errno(0)
	errFull = api.Errno(2)

	allocNew     = 1
	allocRunning = 2
	allocDone    = 3
	allocFailed  = 4
	allocEnded   = 5
	allocLost    = 6
)

// hand is those who wait, as they are asked by a test.
type hand struct {
	*testing.T
	*front.Front
}

// fresh is nobody.
func fresh(t *testing.T) hand {
	t.Helper()
	f := front.New()
	if f == nil {
		t.Fatal("New: nil")
	}
	return hand{t, f}
}

// who is somebody that no other number is.
func who(n int) front.Who {
	return front.Who{
		From:   n % 7,
		Ctx:    10 * n,
		Client: n % 5,
		Req:    n,
		Cmd: api.Cmd{
			Op:      1 + n%10,
			Client:  n % 5,
			Req:     n,
			Job:     api.Job{ID: n, Type: 1, Groups: []api.Group{{Count: n}, {Count: n + 1}}, Version: n, Stopped: n%2 == 0},
			Node:    api.Node{ID: n, Up: n%2 == 1, Boot: n, Epoch: n, Seq: n},
			Reports: []api.Report{{Alloc: n, State: allocRunning}},
			Plan:    api.Plan{Job: n, Stops: []int{n, n + 1}, Places: []api.Alloc{{ID: n}}, Blocked: n%3 == 0},
			Conf:    api.Conf{Voters: []int{n}, Learners: []int{n + 1}},
		},
	}
}

// result is an answer that no other number is.
func result(n int) api.Result {
	return api.Result{Code: api.Errno(n % 4), Value: n, Allocs: []api.Alloc{{ID: n, State: allocNew}, {ID: n + 1, State: allocDone}}}
}

// entry is one of these numbers, with a command that does not count.
func entry(index, term int) api.Entry {
	return api.Entry{Index: index, Term: term, Cmd: who(index).Cmd}
}

// whose is the answer of a number for somebody.
func whose(n, index, r int) front.Done {
	return front.Done{Who: who(n), Index: index, Result: result(r)}
}

// waits lets somebody wait for an entry.
func (h hand) waits(index, term, n int) {
	h.Helper()
	if e := h.Wait(index, term, who(n)); e != ok {
		h.Fatalf("Wait(%d, %d, %d): %v", index, term, n, e)
	}
}

// reads lets somebody wait for a read, which must have this number.
func (h hand) reads(n, want int) {
	h.Helper()
	if ctx, e := h.Read(who(n)); ctx != want || e != ok {
		h.Fatalf("Read(%d): %d, %v, not %d", n, ctx, e, want)
	}
}

// passes lets somebody wait for another server, under this number.
func (h hand) passes(n, want int) {
	h.Helper()
	if ctx, e := h.Pass(who(n)); ctx != want || e != ok {
		h.Fatalf("Pass(%d): %d, %v, not %d", n, ctx, e, want)
	}
}

// full holds it which of the three kinds have no room left; who is refused is nobody.
func (h hand) full(entries, reads, passes bool) {
	h.Helper()
	if h.Full() != entries {
		h.Fatalf("Full: %v", h.Full())
	}
	if entries {
		if e := h.Wait(1, 1, who(1)); e != errFull {
			h.Fatalf("Wait: %v, not ErrFull", e)
		}
	}
	if reads {
		if ctx, e := h.Read(who(1)); ctx != 0 || e != errFull {
			h.Fatalf("Read: %d, %v, not 0 and ErrFull", ctx, e)
		}
	}
	if passes {
		if ctx, e := h.Pass(who(1)); ctx != 0 || e != errFull {
			h.Fatalf("Pass: %d, %v, not 0 and ErrFull", ctx, e)
		}
	}
}

// takes holds it that just these are done, in this order.
func (h hand) takes(want ...front.Done) {
	h.Helper()
	for _, w := range want {
		if d, ok := h.Take(); !ok || !alike(d, w) {
			h.Fatalf("Take: %+v, %v, not %+v", d, ok, w)
		}
	}
	if d, ok := h.Take(); ok || !alike(d, front.Done{}) {
		h.Fatalf("Take: %+v, %v, where nobody is done", d, ok)
	}
}

// len holds it how many wait.
func (h hand) len(want int) {
	h.Helper()
	if h.Len() != want {
		h.Fatalf("Len: %d, not %d", h.Len(), want)
	}
}

// alloc is one of this state.
func alloc(id, state int) api.Alloc {
	return api.Alloc{ID: id, Job: 1 + id%6, Version: id, Group: id % 2, Index: id % 4, Node: 1 + id%4, Epoch: id, Ask: api.Res{CPU: id, Mem: id}, Stop: id%3 == 0, State: state}
}

// storeAt is a store that has applied so much, with allocations of all states, and other things that are not told.
func storeAt(index int) api.Store {
	return api.Store{
		Index:   index,
		Next:    9,
		Jobs:    []api.Job{{ID: 1}},
		Nodes:   []api.Node{{ID: 2}},
		Allocs:  []api.Alloc{alloc(1, allocDone), alloc(2, allocRunning), alloc(3, allocFailed), alloc(5, allocNew), alloc(6, allocEnded), alloc(7, allocLost), alloc(8, allocRunning)},
		Evals:   []api.Eval{{Job: 1}},
		Deploys: []api.Deploy{{Job: 1}},
		Seen:    []api.Seen{{Client: 1, Answer: result(9)}},
	}
}

// sees is what somebody is told of storeAt.
func sees(n, index int) front.Done {
	return front.Done{Who: who(n), Index: index, Result: api.Result{Allocs: []api.Alloc{alloc(2, allocRunning), alloc(5, allocNew), alloc(8, allocRunning)}}}
}

// farNumbers are the least and the greatest of the type, those at the edges of what may be, and those that are small when they are cut to fewer bits.
func farNumbers() []int {
	return []int{math.MinInt, math.MinInt + 1, -1 << 40, -1 << 32, -1, 0, 1, 2, 3, 63, 64, 65, 256, 1 << 32, 1<<32 + 1, 1 << 40, 1<<40 + 1, 1 << 62, math.MaxInt - 1, math.MaxInt}
}

// alike takes lists of none and no lists as one, at every depth.
func alike(a, b any) bool { return reflect.DeepEqual(plain(a), plain(b)) }

// plain is a copy in which no list is empty but nil.
func plain(a any) any {
	from := reflect.ValueOf(a)
	out := reflect.New(from.Type()).Elem()
	plainInto(out, from)
	return out.Interface()
}

func plainInto(out, from reflect.Value) {
	switch from.Kind() {
	case reflect.Struct:
		for i := range from.NumField() {
			plainInto(out.Field(i), from.Field(i))
		}
	case reflect.Slice:
		if from.Len() > 0 {
			out.Set(reflect.MakeSlice(from.Type(), from.Len(), from.Len()))
		}
		for i := range from.Len() {
			plainInto(out.Index(i), from.Index(i))
		}
	default:
		out.Set(from)
	}
}
