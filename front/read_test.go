package front_test

import (
	"testing"

	"coxswain/api"
	"coxswain/front"
)

// P18.2: 64 may wait for reads, not one more; a read that is refused has no number; room is made by Unread, Reads and Drop.
func TestAsManyForReadsAsMay(t *testing.T) {
	h := fresh(t)
	for i := range maxWait {
		h.full(false, false, false)
		h.len(i)
		h.reads(i, i+1)
	}
	for range 3 {
		h.full(false, true, false)
		h.len(maxWait)
	}
	h.Unread(7)
	h.reads(100, 65)
	h.full(false, true, false)
	h.Ready(9, 3)
	h.full(false, true, false)
	h.Reads(storeAt(3))
	h.takes(sees(8, 3))
	h.reads(101, 66)
	h.full(false, true, false)
	h.Drop()
	h.len(0)
	for i := range maxWait {
		h.full(false, false, false)
		h.reads(i, 67+i)
	}
	h.full(false, true, false)
}

// P18.2: the numbers go on from 1, one more each time, whatever became of the reads before.
func TestNumbersOfReads(t *testing.T) {
	h := fresh(t)
	next := 1
	for round := range 100 {
		h.reads(1, next)
		h.reads(2, next+1)
		switch round % 5 {
		case 0:
			h.Drop()
		case 1:
			h.Unread(next + 1)
			h.Unread(next)
		case 2:
			h.Unread(next)
			h.Unread(next + 2)
			h.Ready(next+1, 0)
			h.Reads(storeAt(0))
			h.takes(sees(2, 0))
		case 3:
			h.Drop()
			h.Drop()
			h.Pass(who(1))
		case 4:
			h.Reads(storeAt(9))
			h.Drop()
			h.Wait(1, 1, who(1))
		}
		next += 2
	}
}

// P18.2: Unread of a number that waits, that waited before, that never was, of 0 and below.
func TestUnread(t *testing.T) {
	h := fresh(t)
	for i := range 5 {
		h.reads(i, i+1)
		h.Ready(i+1, 1)
	}
	for _, ctx := range []int{0, -1, -2, 6, 7, 1000} {
		h.Unread(ctx)
		h.len(5)
	}
	for range 3 {
		h.Unread(2)
		h.len(4)
	}
	h.Unread(5)
	h.len(3)
	h.takes()
	h.Reads(storeAt(1))
	h.takes(sees(0, 1), sees(2, 1), sees(3, 1))
	for ctx := range 8 {
		h.Unread(ctx)
	}
	h.len(0)
	h.reads(9, 6)
	h.Ready(6, 1)
	h.Reads(storeAt(1))
	h.takes(sees(9, 1))
}

// P18.2: Ready of a number that waited before, that never was, of 0 and below, says nothing, not of the read that gets this number later either.
func TestReadyOfNone(t *testing.T) {
	h := fresh(t)
	h.reads(1, 1)
	h.reads(2, 2)
	h.Unread(1)
	for _, ctx := range []int{1, 0, -1, -2, 3, 4, 5, 100} {
		h.Ready(ctx, 0)
	}
	h.Reads(storeAt(100))
	h.takes()
	h.len(1)
	h.reads(3, 3)
	h.Drop()
	h.Ready(3, 0)
	h.reads(4, 4)
	h.Reads(storeAt(100))
	h.takes()
	h.len(1)
	h.Ready(4, 1)
	h.Reads(storeAt(100))
	h.takes(sees(4, 100))
	h.Ready(4, 1)
	h.Reads(storeAt(100))
	h.takes()
}

// P18.2: Ready that is told more than once holds as the last one says, with a lower index, and with a higher one.
func TestReadyTwice(t *testing.T) {
	h := fresh(t)
	h.reads(1, 1)
	h.Ready(1, 5)
	h.Ready(1, 8)
	h.Reads(storeAt(5))
	h.Reads(storeAt(7))
	h.takes()
	h.Ready(1, 6)
	h.Reads(storeAt(5))
	h.takes()
	h.Reads(storeAt(6))
	h.takes(sees(1, 6))
	h.reads(2, 2)
	h.Ready(2, 9)
	h.Ready(2, 9)
	h.Ready(2, 1)
	h.Reads(storeAt(1))
	h.takes(sees(2, 1))
	h.len(0)
}

// P18.2: a store whose Index is below, at and above the index told; the Index that is told is the store's.
func TestReadsAtAStore(t *testing.T) {
	for _, c := range []struct {
		index int
		done  bool
	}{{4, false}, {0, false}, {-5, false}, {5, true}, {6, true}, {1000, true}} {
		h := fresh(t)
		h.reads(1, 1)
		h.Ready(1, 5)
		h.Reads(storeAt(c.index))
		if c.done {
			h.len(0)
			h.takes(sees(1, c.index))
			h.Reads(storeAt(c.index))
			h.takes()
			continue
		}
		h.len(1)
		h.takes()
		h.Reads(storeAt(7))
		h.takes(sees(1, 7))
	}
}

// P18.2: what is told is the allocations of the store that are not over, in its order, and nothing else of it.
func TestWhatAReadTells(t *testing.T) {
	for _, c := range []struct{ has, told []api.Alloc }{
		{nil, nil},
		{[]api.Alloc{alloc(1, allocDone)}, nil},
		{[]api.Alloc{alloc(1, allocDone), alloc(2, allocFailed), alloc(3, allocEnded), alloc(4, allocLost)}, nil},
		{[]api.Alloc{alloc(4, allocNew)}, []api.Alloc{alloc(4, allocNew)}},
		{[]api.Alloc{alloc(4, allocRunning), alloc(2, allocNew), alloc(9, allocRunning)}, []api.Alloc{alloc(4, allocRunning), alloc(2, allocNew), alloc(9, allocRunning)}},
		{[]api.Alloc{alloc(1, allocRunning), alloc(1, allocRunning), alloc(1, allocDone)}, []api.Alloc{alloc(1, allocRunning), alloc(1, allocRunning)}},
	} {
		h := fresh(t)
		h.reads(1, 1)
		h.Ready(1, 2)
		s := storeAt(3)
		s.Allocs = c.has
		h.Reads(s)
		h.takes(front.Done{Who: who(1), Index: 3, Result: api.Result{Allocs: c.told}})
	}
}

// P18.2: of reads that are ready and others that are not, just those are done that may be, in the order in which they came, whichever became ready first.
func TestReadsAmongOthers(t *testing.T) {
	h := fresh(t)
	for i := 1; i <= 6; i++ {
		h.reads(i, i)
	}
	h.Ready(6, 4)
	h.Ready(3, 9)
	h.Ready(4, 3)
	h.Ready(1, 4)
	h.Reads(storeAt(4))
	h.takes(sees(1, 4), sees(4, 4), sees(6, 4))
	h.len(3)
	h.Ready(5, 0)
	h.Ready(2, 9)
	h.Reads(storeAt(8))
	h.takes(sees(5, 8))
	h.Reads(storeAt(9))
	h.takes(sees(2, 9), sees(3, 9))
	h.len(0)
}

// P18.2: a read waits till it is told to be ready, however much is applied; and at each index, 0 too, till Reads is asked.
func TestReadsThatAreNotReady(t *testing.T) {
	h := fresh(t)
	h.reads(1, 1)
	for index := range 10 {
		h.Reads(storeAt(index))
	}
	h.takes()
	h.len(1)
	h.Ready(1, 0)
	h.takes()
	h.len(1)
	h.Reads(storeAt(0))
	h.takes(sees(1, 0))
}

// P18.2: Drop with none, with one and with many, ready ones too; what is done stays done, and who waits for something else waits on.
func TestDrop(t *testing.T) {
	for _, count := range []int{0, 1, 2, maxWait} {
		h := fresh(t)
		h.reads(50, 1)
		h.Ready(1, 1)
		h.Reads(storeAt(1))
		h.waits(3, 1, 60)
		h.passes(70, 1)
		for i := range count {
			h.reads(i, i+2)
			if i%2 == 0 {
				h.Ready(i+2, 1)
			}
		}
		h.len(count + 2)
		h.Drop()
		h.len(2)
		h.Reads(storeAt(1))
		for i := range count {
			h.Ready(i+2, 1)
		}
		h.Reads(storeAt(1))
		h.Applied(entry(3, 1), result(2))
		h.Passed(1, result(3))
		h.takes(sees(50, 1), whose(60, 3, 2), whose(70, 0, 3))
		h.len(0)
		h.reads(1, count+2)
	}
}

// P18.2: a store is nobody's entry, and no other server's answer; Unread and Ready know the numbers of reads alone.
func TestReadsAreForReadsAlone(t *testing.T) {
	h := fresh(t)
	h.waits(1, 1, 1)
	h.passes(2, 1)
	h.Ready(1, 1)
	h.Unread(1)
	h.Reads(storeAt(1))
	h.Drop()
	h.takes()
	h.len(2)
}
