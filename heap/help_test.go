package heap_test

import (
	"runtime"
	"slices"
	"testing"
	"time"

	"coxswain/heap"
)

// tens are numbers that are less by their tens alone: 11 and 13 are equal things, and yet told apart.
type tens int

func (a tens) Less(b tens) bool { return a/10 < b/10 }

type word string

func (a word) Less(b word) bool { return a < b }

// visit is a thing of several fields, with a list among them; less by its day, then by its hour.
type visit struct {
	day, hour int
	who       []string
}

func (a visit) Less(b visit) bool {
	if a.day != b.day {
		return a.day < b.day
	}
	return a.hour < b.hour
}

// card is a thing that is handed on by its pointer.
type card struct {
	rank int
	text [100]byte
}

func (a *card) Less(b *card) bool { return a.rank < b.rank }

// beast is a thing of an interface's type, which may be nil.
type beast interface{ Less(b beast) bool }

type mouse int

func (a mouse) Less(b beast) bool { return a < b.(mouse) }

func heapOf[T heap.Less[T]](things ...T) *heap.Heap[T] {
	h := heap.New[T]()
	for _, x := range things {
		h.Push(x)
	}
	return h
}

// popAll pops till there is nothing, and asks ahead of each Pop that Peek and Len tell the same.
func popAll[T interface {
	comparable
	heap.Less[T]
}](t *testing.T, h *heap.Heap[T]) []T {
	t.Helper()
	var out []T
	for left := h.Len(); left > 0; left-- {
		if h.Len() != left {
			t.Fatalf("Len: %d, not %d", h.Len(), left)
		}
		seen, there := h.Peek()
		x, ok := h.Pop()
		if !there || !ok || seen != x {
			t.Fatalf("Peek: %v, %v; Pop: %v, %v", seen, there, x, ok)
		}
		out = append(out, x)
	}
	nothing(t, h)
	return out
}

func nothing[T interface {
	comparable
	heap.Less[T]
}](t *testing.T, h *heap.Heap[T]) {
	t.Helper()
	var zero T
	if x, ok := h.Peek(); ok || x != zero {
		t.Fatalf("Peek of none: %v, %v", x, ok)
	}
	if x, ok := h.Pop(); ok || x != zero {
		t.Fatalf("Pop of none: %v, %v", x, ok)
	}
	if h.Len() != 0 {
		t.Fatalf("Len of none: %d", h.Len())
	}
}

func told[T comparable](t *testing.T, what string, got []T, want ...T) {
	t.Helper()
	if !slices.Equal(got, want) {
		t.Fatalf("%s: %v, not %v", what, got, want)
	}
}

func removed[T heap.Less[T]](t *testing.T, h *heap.Heap[T], x T, want int) {
	t.Helper()
	before := h.Len()
	if n := h.Remove(x); n != want || h.Len() != before-want {
		t.Fatalf("Remove(%v): %d of %d, %d are left; not %d", x, n, before, h.Len(), want)
	}
}

func taken[T comparable](t *testing.T, b *heap.Box[T], want T) {
	t.Helper()
	if x, ok := b.Take(); !ok || x != want {
		t.Fatalf("Take: %v, %v; not %v", x, ok, want)
	}
}

func takesNone[T comparable](t *testing.T, b *heap.Box[T]) {
	t.Helper()
	var zero T
	if x, ok := b.Take(); ok || x != zero {
		t.Fatalf("Take of none: %v, %v", x, ok)
	}
	if b.Len() != 0 {
		t.Fatalf("Len of none: %d", b.Len())
	}
}

func put[T any](t *testing.T, b *heap.Box[T], x T, want bool) {
	t.Helper()
	before := b.Len()
	if b.Put(x) != want {
		t.Fatalf("Put(%v) behind %d: not %v", x, before, want)
	}
	if want {
		before++
	}
	if b.Len() != before {
		t.Fatalf("Len: %d, not %d", b.Len(), before)
	}
}

// ends fails if a call goes on for too long, where it would else hang the tests.
func ends(t *testing.T, what string, call func()) {
	t.Helper()
	done := make(chan struct{})
	go func() {
		defer close(done)
		call()
	}()
	select {
	case <-done:
	case <-time.After(time.Minute):
		t.Fatalf("%s does not end", what)
	}
}

// collected asks the collector often enough that it would have told of what nobody holds any more.
func collected(gone func() bool) bool {
	for range 200 {
		runtime.GC()
		if gone() {
			return true
		}
		time.Sleep(5 * time.Millisecond)
	}
	return false
}
