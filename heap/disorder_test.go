package heap_test

import (
	"math/rand"
	"testing"

	"coxswain/heap"
)

// The types of this file have a Less that does not order. Of them nothing is promised, but that all ends; and R1: that nothing panics.

type always int

func (a always) Less(always) bool { return true }

type never int

func (a never) Less(never) bool { return false }

// ring goes round: 0 is less than 1, 1 than 2, 2 than 0.
type ring int

func (a ring) Less(b ring) bool { return (a+1)%3 == b%3 }

// real has one that is no number, of which all comparisons tell false.
type real float64

func (a real) Less(b real) bool { return a < b }

// fickle tells otherwise each time.
type fickle struct {
	rank int
	dice *rand.Rand
}

func (a fickle) Less(b fickle) bool { return a.dice.Intn(2) == 0 }

type falls int

func (a falls) Less(b falls) bool {
	if (a+b)%2 == 0 {
		panic("falls")
	}
	return a < b
}

// endsWith does all calls with things of a Less that does not order, and asks only what hangs on no order.
func endsWith[T heap.Less[T]](t *testing.T, what string, thing func(i int) T) {
	t.Helper()
	ends(t, what, func() {
		h := heap.New[T]()
		for round := range 50 {
			for i := range 40 {
				h.Push(thing(i*13 + round))
			}
			for i := range 10 {
				h.Peek()
				before := h.Len()
				if _, ok := h.Pop(); ok != (before > 0) {
					t.Errorf("%s: Pop of %d things: %v", what, before, ok)
				}
				before = h.Len()
				if n := h.Remove(thing(i)); n < 0 || h.Len() != before-n {
					t.Errorf("%s: Remove of %d: %d, %d are left", what, before, n, h.Len())
				}
			}
		}
		for left := h.Len(); left > 0; left-- {
			if _, ok := h.Pop(); !ok || h.Len() != left-1 {
				t.Errorf("%s: Pop of %d things: %v, %d are left", what, left, ok, h.Len())
				return
			}
		}
		if _, ok := h.Pop(); ok {
			t.Errorf("%s: Pop of none", what)
		}
	})
}

// The chapter's promises: with a Less that does not order all ends.
func TestALessThatDoesNotOrder(t *testing.T) {
	endsWith(t, "always", func(i int) always { return always(i) })
	endsWith(t, "never", func(i int) never { return never(i) })
	endsWith(t, "a ring", func(i int) ring { return ring(i) })
	zero := 0.0
	endsWith(t, "no number", func(i int) real { return real(float64(i%3) / zero) })
	dice := rand.New(rand.NewSource(5))
	endsWith(t, "fickle", func(i int) fickle { return fickle{i, dice} })
}

// R1: a Less that panics, of a nil thing too, makes no call panic.
func TestALessThatPanics(t *testing.T) {
	endsWith(t, "falls", func(i int) falls { return falls(i) })
	endsWith(t, "nil pointers", func(i int) *card {
		if i%2 == 0 {
			return nil
		}
		return &card{rank: i}
	})
	endsWith(t, "nil interfaces", func(i int) beast {
		if i%3 == 0 {
			return nil
		}
		return mouse(i)
	})
}

// R5: what is told hangs on what was pushed alone, with a Less that does not order too.
func TestTheSameAgain(t *testing.T) {
	run := func() []ring {
		h := heap.New[ring]()
		for i := range 100 {
			h.Push(ring(i * i % 31))
		}
		var out []ring
		for i := range 50 {
			x, _ := h.Pop()
			out = append(out, x)
			if i%20 == 7 {
				out = append(out, ring(h.Remove(ring(i))))
			}
		}
		return out
	}
	told(t, "again", run(), run()...)
}
