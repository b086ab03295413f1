package front_test

import (
	"math"
	"math/rand"
	"testing"

	"coxswain/api"
	"coxswain/front"
)

// R1, R6, P18.1: the least and the greatest numbers are indexes and terms like all others, each apart from all others.
func TestFarEntries(t *testing.T) {
	far := farNumbers()
	for _, index := range far {
		for _, term := range far {
			h := fresh(t)
			h.waits(index, term, 1)
			for _, other := range far {
				if other != index {
					h.Applied(entry(other, term), result(2))
				}
			}
			h.len(1)
			h.takes()
			h.Applied(entry(index, term), result(3))
			h.takes(front.Done{Who: who(1), Index: index, Result: result(3)})
			h.len(0)
			for _, other := range far {
				if other == term {
					continue
				}
				h.waits(index, term, 1)
				h.Applied(entry(index, other), result(4))
				h.len(0)
				h.takes()
			}
		}
	}
}

// R1, R6, P18.2: the least and the greatest numbers are indexes of reads and of stores like all others: the one is at most the other, or it is not.
func TestFarReads(t *testing.T) {
	far := farNumbers()
	h := fresh(t)
	next := 1
	for _, index := range far {
		for _, at := range far {
			h.reads(1, next)
			h.Ready(next, index)
			h.Reads(storeAt(at))
			if index <= at {
				h.len(0)
				h.takes(sees(1, at))
			} else {
				h.len(1)
				h.takes()
				h.Drop()
			}
			next++
		}
	}
}

// R1, R6, P18.2, P18.3: numbers that no read and no pass has are nobody's, however far.
func TestFarNumbersOfReadsAndPasses(t *testing.T) {
	h := fresh(t)
	for i := range 3 {
		h.reads(i, i+1)
		h.passes(10+i, i+1)
	}
	for _, ctx := range farNumbers() {
		if ctx >= 1 && ctx <= 3 {
			continue
		}
		h.Ready(ctx, math.MinInt)
		h.Unread(ctx)
		h.Passed(ctx, result(1))
		h.Reads(storeAt(math.MaxInt))
		h.len(6)
		h.takes()
	}
	h.Ready(3, math.MaxInt)
	h.Reads(storeAt(math.MaxInt))
	h.Passed(2, result(4))
	h.takes(sees(2, math.MaxInt), whose(11, 0, 4))
	h.reads(1, 4)
	h.passes(1, 4)
}

// R1, R6: who waits, and what they are answered, may be anything, and is told as it came.
func TestFarPeople(t *testing.T) {
	for _, n := range farNumbers() {
		w := front.Who{From: n, Ctx: n, Client: n, Req: n, Cmd: api.Cmd{Op: n, Client: n, Req: n, Job: api.Job{ID: n, Groups: []api.Group{{Count: n}}}, Conf: api.Conf{Voters: []int{n, n, n}}}}
		r := api.Result{Code: api.Errno(n), Value: n, Allocs: []api.Alloc{{ID: n, State: n}, {ID: n, State: n}}}
		h := fresh(t)
		h.Wait(1, 1, w)
		h.Read(w)
		h.Pass(w)
		h.Applied(api.Entry{Index: 1, Term: 1}, r)
		h.Passed(1, r)
		h.Ready(1, n)
		h.Reads(api.Store{Index: n})
		h.takes(front.Done{Who: w, Index: 1, Result: r}, front.Done{Who: w, Result: r}, front.Done{Who: w, Index: n})
		h.len(0)
	}
}

// P18.2: an allocation is over from AllocDone on (package api), with any other state it is not.
func TestFarStates(t *testing.T) {
	h := fresh(t)
	for at, state := range append(farNumbers(), 4, 5, 6, 7) {
		h.reads(1, at+1)
		h.Ready(at+1, 1)
		s := api.Store{Index: 1, Allocs: []api.Alloc{alloc(1, allocNew), alloc(2, state), alloc(3, allocRunning)}}
		h.Reads(s)
		want := s.Allocs
		if state >= allocDone {
			want = []api.Alloc{alloc(1, allocNew), alloc(3, allocRunning)}
		}
		h.takes(front.Done{Who: who(1), Index: 1, Result: api.Result{Allocs: want}})
	}
}

// R1: each call ends, whatever comes.
func TestAnyCallsAtAnyNumbers(t *testing.T) {
	far := farNumbers()
	for seed := range int64(50) {
		dice := rand.New(rand.NewSource(seed))
		pick := func() int { return far[dice.Intn(len(far))] }
		h := fresh(t)
		waits, done := 0, 0
		for range 3000 {
			switch dice.Intn(11) {
			case 0:
				if h.Wait(pick(), pick(), front.Who{From: pick(), Ctx: pick()}) != ok && !h.Full() {
					t.Fatal("Wait is refused, where there is room")
				}
			case 1:
				h.Read(front.Who{Client: pick(), Req: pick()})
			case 2:
				h.Pass(front.Who{})
			case 3:
				h.Applied(api.Entry{Index: pick(), Term: pick()}, api.Result{Code: api.Errno(pick())})
			case 4:
				h.Unread(pick())
			case 5, 6:
				h.Ready(pick(), pick())
			case 7:
				h.Reads(api.Store{Index: pick(), Allocs: []api.Alloc{{State: pick()}}})
			case 8:
				h.Passed(pick(), api.Result{Value: pick()})
			case 9:
				if dice.Intn(20) == 0 {
					h.Drop()
				}
			case 10:
				if _, some := h.Take(); some {
					done++
				}
			}
			if waits = max(waits, h.Len()); h.Len() < 0 || h.Len() > 3*maxWait {
				t.Fatalf("Len: %d", h.Len())
			}
		}
		if waits < 20 || done == 0 {
			t.Fatalf("seed %d: at most %d waited, %d are done", seed, waits, done)
		}
	}
}

// The bound: a store and an answer of many allocations for as many as may wait: they are there once, till they are taken.
func TestManyAllocs(t *testing.T) {
	const many = 60000
	s := api.Store{Index: 1, Allocs: make([]api.Alloc, many)}
	for i := range s.Allocs {
		s.Allocs[i] = api.Alloc{ID: i, State: 1 + i%3}
	}
	h := fresh(t)
	for i := range maxWait {
		h.reads(i, i+1)
		h.Ready(i+1, 1)
		h.waits(1, 1, i)
	}
	h.Reads(s)
	h.Applied(entry(1, 1), api.Result{Allocs: s.Allocs})
	for i := range 2 * maxWait {
		d, ok := h.Take()
		want := many - many/3
		if i >= maxWait {
			want = many
		}
		if got := len(d.Result.Allocs); !ok || got < want-1 || got > want+1 || d.Who.Req != i%maxWait {
			t.Fatalf("the answer %d is of %d allocations", i, got)
		}
	}
	h.takes()
}
