package front_test

import (
	"testing"

	"coxswain/front"
)

// P18.3: 64 may wait for other servers, not one more; who is refused has no number; room is made by Passed.
func TestAsManyForOthersAsMay(t *testing.T) {
	h := fresh(t)
	for i := range maxWait {
		h.full(false, false, false)
		h.len(i)
		h.passes(i, i+1)
	}
	for range 3 {
		h.full(false, false, true)
		h.len(maxWait)
	}
	h.Passed(30, result(1))
	h.takes(whose(29, 0, 1))
	h.passes(100, 65)
	h.full(false, false, true)
	h.Passed(66, result(2))
	h.Drop()
	h.full(false, false, true)
	h.Passed(65, result(3))
	h.takes(whose(100, 0, 3))
	h.len(maxWait - 1)
}

// P18.3: Pass's numbers are its own, beside Read's: from 1 on, one more each time.
func TestNumbersOfPasses(t *testing.T) {
	h := fresh(t)
	h.passes(1, 1)
	h.reads(2, 1)
	h.reads(3, 2)
	h.passes(4, 2)
	h.reads(5, 3)
	h.reads(6, 4)
	h.Drop()
	h.passes(7, 3)
	h.reads(8, 5)
	h.Passed(2, result(1))
	h.Passed(3, result(2))
	h.passes(9, 4)
	h.takes(whose(4, 0, 1), whose(7, 0, 2))
	h.len(3)
	h.Ready(5, 1)
	h.Reads(storeAt(1))
	h.takes(sees(8, 1))
	h.Passed(5, result(3))
	h.takes()
	h.Passed(4, result(4))
	h.Passed(1, result(5))
	h.takes(whose(9, 0, 4), whose(1, 0, 5))
	for i := range 3 * maxWait {
		h.passes(i, 5+i)
		h.Passed(5+i, result(i))
		h.takes(whose(i, 0, i))
	}
}

// P18.3: Passed of a number that waits, once more, and of numbers that never were.
func TestPassed(t *testing.T) {
	h := fresh(t)
	for _, ctx := range []int{0, 1, -1, 2} {
		h.Passed(ctx, result(1))
	}
	h.takes()
	for i := 1; i <= 4; i++ {
		h.passes(i, i)
	}
	for _, ctx := range []int{0, -1, -4, 5, 6, 1000} {
		h.Passed(ctx, result(9))
		h.len(4)
	}
	h.takes()
	h.Passed(3, result(3))
	h.Passed(3, result(8))
	h.len(3)
	h.Passed(1, result(1))
	h.takes(whose(3, 0, 3), whose(1, 0, 1))
	h.Passed(3, result(8))
	h.Passed(1, result(8))
	h.takes()
	h.len(2)
	h.Passed(2, result(2))
	h.Passed(4, result(4))
	h.len(0)
	h.takes(whose(2, 0, 2), whose(4, 0, 4))
	h.passes(5, 5)
	h.Passed(5, front.Done{}.Result)
	h.takes(front.Done{Who: who(5)})
}

// P18.3: another server's answer is nobody's entry, and no read.
func TestPassedIsForOthersAlone(t *testing.T) {
	h := fresh(t)
	h.waits(1, 1, 1)
	h.reads(2, 1)
	h.Ready(1, 1)
	h.Passed(1, result(1))
	h.takes()
	h.len(2)
}

// P18.1 to P18.3: each kind has its own limit, while the others are full, and has room again while they have none.
func TestEachKindAtItsOwnLimit(t *testing.T) {
	kinds := []struct {
		fill, free func(h hand)
	}{
		{func(h hand) { h.waits(1, 1, 1) }, func(h hand) { h.Applied(entry(1, 2), result(1)) }},
		{func(h hand) { h.reads(1, h.Len()%maxWait+1) }, func(h hand) { h.Drop() }},
		{func(h hand) { h.passes(1, h.Len()%maxWait+1) }, func(h hand) {
			for ctx := range maxWait + 1 {
				h.Passed(ctx, result(1))
			}
		}},
	}
	for _, order := range [][]int{{0, 1, 2}, {0, 2, 1}, {1, 0, 2}, {1, 2, 0}, {2, 0, 1}, {2, 1, 0}} {
		h := fresh(t)
		var full [3]bool
		for i, kind := range order {
			for n := range maxWait {
				h.full(full[0], full[1], full[2])
				h.len(maxWait*i + n)
				kinds[kind].fill(h)
			}
			full[kind] = true
			h.full(full[0], full[1], full[2])
		}
		h.len(3 * maxWait)
		for i, kind := range order {
			kinds[kind].free(h)
			full[kind] = false
			h.full(full[0], full[1], full[2])
			h.len((2 - i) * maxWait)
		}
	}
}
