package raftlog_test

import (
	"math"
	"testing"

	"coxswain/api"
)

// P8.5: at each index there is.
func TestCompact(t *testing.T) {
	terms := []int{2, 3, 3, 7, 9}
	for i, term := range terms {
		l := made(t, 4, 2, terms...)
		compact(t, l, 5+i, api.OK)
		holds(t, l, 5+i, term, entries(6+i, terms[i+1:]...))
	}
}

// P8.5: at the base and below it nothing is done, and nothing refused.
func TestCompactAtTheBaseAndBelow(t *testing.T) {
	full, empty := made(t, 4, 2, 2, 3), made(t, 4, 2)
	for _, i := range []int{4, 3, 1, 0, -1, -most, math.MinInt, math.MinInt + 5} {
		compact(t, full, i, api.OK)
		holds(t, full, 4, 2, entries(5, 2, 3))
		compact(t, empty, i, api.OK)
		holds(t, empty, 4, 2, nil)
	}
	l := made(t, 0, 0)
	compact(t, l, 0, api.OK)
	compact(t, l, -1, api.OK)
	holds(t, l, 0, 0, nil)
}

// P8.5: above the last one it is refused, and changes nothing.
func TestCompactAboveTheLast(t *testing.T) {
	full, empty := made(t, 4, 2, 2, 3), made(t, 4, 2)
	for _, i := range []int{7, 8, most, most + 1, math.MaxInt - 1, math.MaxInt} {
		compact(t, full, i, api.ErrEmpty)
		holds(t, full, 4, 2, entries(5, 2, 3))
		compact(t, empty, i, api.ErrEmpty)
		holds(t, empty, 4, 2, nil)
	}
	compact(t, empty, 5, api.ErrEmpty)
	l := made(t, 0, 0)
	compact(t, l, 1, api.ErrEmpty)
	holds(t, l, 0, 0, nil)
}

// P8.5: one behind the other, up to the last, and there again.
func TestCompactOneByOne(t *testing.T) {
	terms := []int{1, 1, 2, 4, 4, 4, 5}
	l := made(t, 0, 0, terms...)
	for i, term := range terms {
		compact(t, l, i+1, api.OK)
		holds(t, l, i+1, term, entries(i+2, terms[i+1:]...))
		compact(t, l, i+1, api.OK)
		compact(t, l, i, api.OK)
		holds(t, l, i+1, term, entries(i+2, terms[i+1:]...))
	}
	compact(t, l, 8, api.ErrEmpty)
}

// P8.1 to P8.5: all calls of a log that was compacted in its midst.
func TestAllCallsBehindACompact(t *testing.T) {
	l := made(t, 0, 0, 1, 1, 2, 2, 3)
	compact(t, l, 3, api.OK)
	base(t, l, 3, 2)
	last(t, l, 5, 3)
	for i, e := range []api.Errno{api.ErrGone, api.ErrGone, api.ErrGone} {
		termOf(t, l, i, 0, e)
		slice(t, l, i, 9, nil)
	}
	termOf(t, l, 3, 2, api.OK)
	termOf(t, l, 4, 2, api.OK)
	slice(t, l, 3, 9, nil)
	slice(t, l, 4, 1, entries(4, 2))
	newer(t, l, 4, 3, false)
	newer(t, l, 5, 3, true)
	accept(t, l, 2, 1, entries(3, 2, 2), 0, false)
	accept(t, l, 3, 2, entries(4, 2, 3), 0, true)
	accept(t, l, 4, 2, entries(5, 3, 4), 6, true)
	holds(t, l, 3, 2, entries(4, 2, 3, 4))
	accept(t, l, 3, 2, entries(4, 5), 4, true)
	holds(t, l, 3, 2, entries(4, 5))
	refusesPut(t, l, 4, api.ErrArg)
	x := entry(5, 6)
	put(t, l, 6, x.Cmd, x)
	holds(t, l, 3, 2, entries(4, 5, 6))
}

// P8.1 to P8.5: all calls of a log of which all entries are gone.
func TestAllCallsBehindACompactOfAll(t *testing.T) {
	l := made(t, 0, 0, 1, 1, 2)
	compact(t, l, 3, api.OK)
	holds(t, l, 3, 2, nil)
	newer(t, l, 2, 2, false)
	newer(t, l, 3, 2, true)
	newer(t, l, 9, 1, false)
	accept(t, l, 2, 1, entries(3, 2), 0, false)
	accept(t, l, 3, 1, nil, 0, false)
	accept(t, l, 3, 2, nil, 0, true)
	refusesPut(t, l, 1, api.ErrArg)
	x := entry(4, 2)
	put(t, l, 2, x.Cmd, x)
	accept(t, l, 3, 2, entries(4, 2, 3), 5, true)
	accept(t, l, 3, 2, entries(4, 4), 4, true)
	holds(t, l, 3, 2, entries(4, 4))
}

// P8.3 to P8.5: a long log grows by one, and is compacted by one, without going through all of it each time.
func TestALongLog(t *testing.T) {
	const size = 50000
	l := made(t, 0, 0)
	for i := range size {
		if i%2 == 0 {
			l.Put(1, api.Cmd{Req: i})
		} else {
			l.Accept(i, 1, []api.Entry{{Index: i + 1, Term: 1, Cmd: api.Cmd{Req: i}}})
		}
	}
	last(t, l, size, 1)
	for i := range size {
		if x := l.Slice(i+1, 1); len(x) != 1 || x[0].Cmd.Req != i {
			t.Fatalf("Slice(%d, 1): %s", i+1, short(x))
		}
		l.Compact(i + 1)
	}
	holds(t, l, size, 1, nil)
}
