package broker_test

import (
	"math"
	"testing"

	"coxswain/api"
	"coxswain/broker"
)

// The numbers of the document, said once more, so that the tests do not lean on the names.
const (
	ok       = api.Errno(0)
	errEmpty = api.Errno(3)

	evalPending = 1
	evalBlocked = 2
	evalDone    = 3

	tickNack   = 12
	tickDelay  = 6
	maxDeliver = 3
)

// eval is one that is pending.
func eval(job, priority, index int) api.Eval {
	return api.Eval{Job: job, Priority: priority, State: evalPending, Index: index}
}

// in is the evaluation in another State.
func in(state int, e api.Eval) api.Eval {
	e.State = state
	return e
}

func of(evals ...api.Eval) api.Store { return api.Store{Evals: evals} }

// with is a broker that was told these evaluations.
func with(evals ...api.Eval) *broker.Broker {
	b := broker.New()
	b.Update(of(evals...))
	return b
}

// hand is a broker, as it is asked by a test.
type hand struct {
	*testing.T
	*broker.Broker
}

// ask is a hand on a broker that was told these evaluations.
func ask(t *testing.T, evals ...api.Eval) hand { return hand{t, with(evals...)} }

// told is an Update with these evaluations.
func (h hand) told(evals ...api.Eval) { h.Update(of(evals...)) }

// gets holds it that a worker is handed this evaluation, which it has then.
func (h hand) gets(worker int, want api.Eval) {
	h.Helper()
	if e, there := h.Dequeue(worker); !there || e != want {
		h.Fatalf("Dequeue(%d): %+v, %v; not %+v", worker, e, there, want)
	}
	h.has(worker, want)
}

// getsNone holds it that a worker is handed nothing, and that nothing changes for it.
func (h hand) getsNone(workers ...int) {
	h.Helper()
	for _, worker := range workers {
		was, had := h.Held(worker)
		if e, there := h.Dequeue(worker); there || e != (api.Eval{}) {
			h.Fatalf("Dequeue(%d): %+v, %v; not nothing", worker, e, there)
		}
		if e, there := h.Held(worker); e != was || there != had {
			h.Fatalf("Held(%d): %+v, %v; not %+v, %v as ahead of a Dequeue of nothing", worker, e, there, was, had)
		}
	}
}

func (h hand) has(worker int, want api.Eval) {
	h.Helper()
	if e, there := h.Held(worker); !there || e != want {
		h.Fatalf("Held(%d): %+v, %v; not %+v", worker, e, there, want)
	}
}

func (h hand) hasNone(workers ...int) {
	h.Helper()
	for _, worker := range workers {
		if e, there := h.Held(worker); there || e != (api.Eval{}) {
			h.Fatalf("Held(%d): %+v, %v; not nothing", worker, e, there)
		}
	}
}

// acks holds it that a worker's Ack lets an item go, and that the next one has none to let go.
func (h hand) acks(worker int) {
	h.Helper()
	before := h.Len()
	if e := h.Ack(worker); e != ok {
		h.Fatalf("Ack(%d): %d", worker, e)
	}
	h.items(before - 1)
	h.refused(worker)
}

// nacks holds it that a worker's Nack leaves the item there, and that the next one has none to give back.
func (h hand) nacks(worker int) {
	h.Helper()
	before := h.Len()
	if e := h.Nack(worker); e != ok {
		h.Fatalf("Nack(%d): %d", worker, e)
	}
	h.items(before)
	h.refused(worker)
}

// refused holds it that these workers have none, and that their Acks and Nacks are refused, twice in a row, and change nothing.
func (h hand) refused(workers ...int) {
	h.Helper()
	before := h.Len()
	for _, worker := range workers {
		h.hasNone(worker)
		for range 2 {
			if e := h.Ack(worker); e != errEmpty {
				h.Fatalf("Ack(%d) of none: %d", worker, e)
			}
			if e := h.Nack(worker); e != errEmpty {
				h.Fatalf("Nack(%d) of none: %d", worker, e)
			}
		}
		h.hasNone(worker)
	}
	h.items(before)
}

// items holds it how many there are.
func (h hand) items(want int) {
	h.Helper()
	if n := h.Len(); n != want {
		h.Fatalf("Len: %d, not %d", n, want)
	}
}

// ticks are so many, none of which changes how many items there are.
func (h hand) ticks(count int) {
	h.Helper()
	before := h.Len()
	for range count {
		h.Tick()
		h.items(before)
	}
}

// round is that a worker gets this evaluation so often, and gives it back each time.
func (h hand) round(worker, times int, want api.Eval) {
	h.Helper()
	for range times {
		h.gets(worker, want)
		h.nacks(worker)
	}
}

// putOff is that a worker gives this evaluation back so often that it is put off.
func (h hand) putOff(worker int, want api.Eval) {
	h.Helper()
	h.round(worker, maxDeliver, want)
}

// inOrder holds it that these, and no others, are handed out in this order to workers of whom none had one, and gives them back: nobody's count may come to MaxDeliver by that.
func (h hand) inOrder(wants ...api.Eval) {
	h.Helper()
	for i, want := range wants {
		h.gets(1000+i, want)
	}
	h.getsNone(1000 + len(wants))
	for i := range wants {
		h.nacks(1000 + i)
	}
}

// worksOff holds it that these alone may be had, in this order; the worker lets each of them go.
func (h hand) worksOff(worker int, wants ...api.Eval) {
	h.Helper()
	for _, want := range wants {
		h.gets(worker, want)
		h.acks(worker)
	}
	h.getsNone(worker)
}

// farNumbers are the least and the greatest of the type, those at the edges of what may be, and those that are small when they are cut to fewer bits.
func farNumbers() []int {
	return []int{math.MinInt, math.MinInt + 1, -1 << 40, -1 << 32, -1, 0, 1, 2, 3, 100, 101, 1 << 32, 1<<32 + 1, 1 << 40, 1<<40 + 1, 1 << 62, math.MaxInt - 1, math.MaxInt}
}
