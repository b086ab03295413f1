package raftlog_test

import (
	"math"
	"testing"

	"coxswain/api"
	"coxswain/raftlog"
)

// P8.1 to P8.5, the chapter's examples, in their order.
func TestExamples(t *testing.T) {
	l := example(t)
	last(t, l, 3, 2)
	termOf(t, l, 2, 1, api.OK)
	termOf(t, l, 0, 0, api.OK)
	termOf(t, l, 4, 0, api.ErrEmpty)
	slice(t, l, 2, 9, entries(2, 1, 2))
	slice(t, l, 0, 9, nil)
	accept(t, l, 3, 2, nil, 0, true)
	accept(t, l, 4, 2, nil, 0, false)
	accept(t, l, 2, 2, nil, 0, false)
	accept(t, l, 1, 1, entries(2, 1, 3), 3, true)
	last(t, l, 3, 3)
	compact(t, l, 2, api.OK)
	termOf(t, l, 1, 0, api.ErrGone)
	base(t, l, 2, 1)
	refusesPut(t, l, 2, api.ErrArg)
	newer(t, l, 2, 3, false)
	newer(t, l, 3, 3, true)
	newer(t, l, 1, 4, true)
}

// P8.1: which logs may be.
func TestNew(t *testing.T) {
	for _, ok := range [][2]int{{0, 0}, {1, 1}, {1, most}, {most, 1}, {most, most}, {5, 9}, {9, 5}, {most - 1, most - 1}} {
		l := raftlog.New(ok[0], ok[1])
		if l == nil {
			t.Fatalf("New(%d, %d): nil", ok[0], ok[1])
		}
		holds(t, l, ok[0], ok[1], nil)
	}
}

// P8.1: which may not.
func TestNewThatMayNotBe(t *testing.T) {
	nothing := func(index, term int) {
		t.Helper()
		if raftlog.New(index, term) != nil {
			t.Errorf("New(%d, %d): a log", index, term)
		}
	}
	for _, n := range []int{1, 2, most - 1, most} {
		nothing(0, n)
		nothing(n, 0)
	}
	for _, far := range farNumbers() {
		for _, n := range append(farNumbers(), 0, 1, 2, most) {
			nothing(far, n)
			nothing(n, far)
		}
	}
}

// P8.1: Base and Last, of a log without entries and of one with some.
func TestBaseAndLast(t *testing.T) {
	l := made(t, 7, 3)
	base(t, l, 7, 3)
	last(t, l, 7, 3)
	put(t, l, 3, command(1), api.Entry{Index: 8, Term: 3, Cmd: command(1)})
	base(t, l, 7, 3)
	last(t, l, 8, 3)
	put(t, l, 6, command(2), api.Entry{Index: 9, Term: 6, Cmd: command(2)})
	base(t, l, 7, 3)
	last(t, l, 9, 6)
}

// P8.1: two logs have nothing in common.
func TestTwoLogs(t *testing.T) {
	a, b := made(t, 0, 0), made(t, 0, 0)
	put(t, a, 1, command(1), api.Entry{Index: 1, Term: 1, Cmd: command(1)})
	last(t, b, 0, 0)
	put(t, b, 2, command(2), api.Entry{Index: 1, Term: 2, Cmd: command(2)})
	last(t, a, 1, 1)
}

// P8.2: Term below the base, at it, at each entry, and above the last.
func TestTerm(t *testing.T) {
	l := made(t, 4, 2, 2, 3, 3, 7)
	for i, term := range []int{2, 2, 3, 3, 7} {
		termOf(t, l, 4+i, term, api.OK)
	}
	for _, below := range []int{3, 2, 1, 0, -1, -4, -most, math.MinInt, math.MinInt + 5} {
		termOf(t, l, below, 0, api.ErrGone)
	}
	for _, above := range []int{9, 10, 100, most, most + 1, math.MaxInt - 1, math.MaxInt} {
		termOf(t, l, above, 0, api.ErrEmpty)
	}
	l = made(t, 4, 2)
	termOf(t, l, 3, 0, api.ErrGone)
	termOf(t, l, 4, 2, api.OK)
	termOf(t, l, 5, 0, api.ErrEmpty)
	l = made(t, 0, 0)
	termOf(t, l, -1, 0, api.ErrGone)
	termOf(t, l, 0, 0, api.OK)
	termOf(t, l, 1, 0, api.ErrEmpty)
	l = made(t, most, most)
	termOf(t, l, most-1, 0, api.ErrGone)
	termOf(t, l, most, most, api.OK)
	termOf(t, l, most+1, 0, api.ErrEmpty)
}

// P8.2: Slice from each index there is, with each count.
func TestSlice(t *testing.T) {
	terms := []int{2, 3, 3, 7, 9}
	l := made(t, 4, 2, terms...)
	for i := range terms {
		for n := 1; n <= 7; n++ {
			slice(t, l, 5+i, n, entries(5+i, terms[i:min(i+n, 5)]...))
		}
		for _, n := range []int{0, -1, -5, -most, math.MinInt} {
			slice(t, l, 5+i, n, nil)
		}
		for _, n := range []int{most, most + 1, math.MaxInt - 1, math.MaxInt} {
			slice(t, l, 5+i, n, entries(5+i, terms[i:]...))
		}
	}
	holds(t, l, 4, 2, entries(5, terms...))
}

// P8.2: Slice where there is no entry: below the first, at the base, above the last.
func TestSliceOfNone(t *testing.T) {
	l, empty := made(t, 4, 2, 2, 3), made(t, 4, 2)
	for _, n := range []int{math.MinInt, -1, 0, 1, 2, 3, 9, most, math.MaxInt} {
		for _, from := range []int{math.MinInt, math.MinInt + 4, -1, 0, 1, 3, 4, 7, 8, most, most + 1, math.MaxInt} {
			slice(t, l, from, n, nil)
			slice(t, empty, from, n, nil)
		}
		slice(t, empty, 5, n, nil)
	}
	holds(t, l, 4, 2, entries(5, 2, 3))
}

// P8.4: Newer on each side of the last index and term.
func TestNewer(t *testing.T) {
	for _, l := range []*raftlog.Log{made(t, 5, 4), made(t, 0, 0, 1, 1, 2, 3, 4), made(t, 3, 1, 2, 4)} {
		for _, index := range []int{math.MinInt, -1, 0, 1, 4} {
			newer(t, l, index, 4, false)
		}
		for _, index := range []int{5, 6, most, most + 1, math.MaxInt} {
			newer(t, l, index, 4, true)
		}
		for _, index := range []int{math.MinInt, -1, 0, 1, 4, 5, 6, most, math.MaxInt} {
			for _, term := range []int{math.MinInt, -1, 0, 1, 3} {
				newer(t, l, index, term, false)
			}
			for _, term := range []int{5, 6, most, most + 1, math.MaxInt} {
				newer(t, l, index, term, true)
			}
		}
	}
	l := made(t, 0, 0)
	newer(t, l, 0, 0, true)
	newer(t, l, -1, 0, false)
	newer(t, l, 5, -1, false)
	newer(t, l, -1, 1, true)
}

// P8.2 and P8.4: asking changes nothing.
func TestAskingChangesNothing(t *testing.T) {
	l := made(t, 4, 2, 2, 3, 7)
	for i := -2; i < 12; i++ {
		l.Base()
		l.Last()
		l.Term(i)
		l.Slice(i, 2)
		l.Newer(i, i)
		holds(t, l, 4, 2, entries(5, 2, 3, 7))
	}
}
