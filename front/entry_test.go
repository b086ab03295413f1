package front_test

import (
	"testing"

	"coxswain/front"
)

// P18.1: 64 may wait for entries, not one more, be it for one entry or for many; Full tells so.
func TestAsManyForEntriesAsMay(t *testing.T) {
	for _, spread := range []int{0, 1} {
		h := fresh(t)
		for i := range maxWait {
			h.full(false, false, false)
			h.len(i)
			h.waits(1+spread*i, 1, i)
		}
		for range 3 {
			h.full(true, false, false)
			h.len(maxWait)
		}
		h.takes()
		h.Applied(entry(1, 1), result(1))
		gone := maxWait - spread*(maxWait-1)
		h.len(maxWait - gone)
		for i := range gone {
			h.full(false, false, false)
			h.waits(100, 1, i)
		}
		h.full(true, false, false)
	}
}

// P18.1: room is made by all of one Index, those of another Term, too; who was refused is nobody.
func TestRoomBehindApplied(t *testing.T) {
	h := fresh(t)
	for i := range maxWait {
		h.waits(5+i%2, 1+i%3, i)
	}
	h.full(true, false, false)
	h.Applied(entry(5, 9), result(1))
	h.takes()
	h.len(maxWait / 2)
	for i := range maxWait / 2 {
		h.full(false, false, false)
		h.waits(7, 1, i)
	}
	h.full(true, false, false)
	h.Applied(entry(1, 1), result(1)) // full lets somebody wait for this entry, and is refused
	h.takes()
	h.len(maxWait)
}

// P18.1: Applied of an Index for which none, one and many wait.
func TestAppliedOfOneIndex(t *testing.T) {
	h := fresh(t)
	h.Applied(entry(3, 1), result(1))
	h.takes()
	h.waits(3, 1, 1)
	h.Applied(entry(2, 1), result(1))
	h.Applied(entry(4, 1), result(1))
	h.takes()
	h.len(1)
	h.Applied(entry(3, 1), result(2))
	h.len(0)
	h.takes(whose(1, 3, 2))
	var want []front.Done
	for i := range 40 {
		h.waits(3, 1, 10+i)
		want = append(want, whose(10+i, 3, 3))
	}
	h.len(40)
	h.Applied(entry(3, 1), result(3))
	h.len(0)
	h.takes(want...)
}

// P18.1: of the Term waited for they are done; of a lower and of a higher one they are forgotten, and are not done by what comes behind.
func TestAppliedOfAnotherTerm(t *testing.T) {
	for _, c := range []struct {
		term int
		want []front.Done
	}{{4, nil}, {6, nil}, {1, nil}, {0, nil}, {100, nil}, {5, []front.Done{whose(1, 3, 7)}}} {
		h := fresh(t)
		h.waits(3, 5, 1)
		h.Applied(entry(3, c.term), result(7))
		h.len(0)
		h.takes(c.want...)
		h.Applied(entry(3, 5), result(8))
		h.takes()
		h.len(0)
	}
}

// P18.1: of both together, those of the Term are done, in the order in which they came, the others are forgotten.
func TestAppliedOfBothTerms(t *testing.T) {
	h := fresh(t)
	var want []front.Done
	for i := range 30 {
		h.waits(8, 1+i%3, 30-i)
		if 1+i%3 == 2 {
			want = append(want, whose(30-i, 8, 4))
		}
	}
	h.Applied(entry(8, 2), result(4))
	h.len(0)
	h.takes(want...)
	for term := range 4 {
		h.Applied(entry(8, term), result(5))
	}
	h.takes()
}

// P18.1: those of other indexes stay as they are, and in their order; what is applied twice is told once.
func TestAppliedLeavesTheOthers(t *testing.T) {
	h := fresh(t)
	for i := range 20 {
		h.waits(10+i%4, 1+i%2, i)
	}
	for k, index := range []int{12, 10, 13, 11} {
		h.Applied(entry(index, 1+index%2), result(index))
		h.len(15 - 5*k)
		h.Applied(entry(index, 1+index%2), result(99))
		h.Applied(entry(index, 2-index%2), result(99))
		h.len(15 - 5*k)
		i := index - 10
		h.takes(whose(i, index, index), whose(i+4, index, index), whose(i+8, index, index), whose(i+12, index, index), whose(i+16, index, index))
	}
}

// P18.1: the same one may wait more than once, and is done as often.
func TestTheSameOneTwice(t *testing.T) {
	h := fresh(t)
	h.waits(3, 1, 1)
	h.waits(3, 1, 1)
	h.waits(4, 1, 1)
	h.len(3)
	h.Applied(entry(3, 1), result(1))
	h.takes(whose(1, 3, 1), whose(1, 3, 1))
	h.len(1)
	h.Applied(entry(4, 1), result(2))
	h.takes(whose(1, 4, 2))
}

// P18.1: an entry is nobody's read, and no other server's answer.
func TestAppliedIsForEntriesAlone(t *testing.T) {
	h := fresh(t)
	h.reads(1, 1)
	h.Ready(1, 1)
	h.passes(2, 1)
	h.Applied(entry(1, 1), result(1))
	h.Applied(entry(1, 0), result(1))
	h.Applied(entry(0, 0), result(1))
	h.takes()
	h.len(2)
}
