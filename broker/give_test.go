package broker_test

import (
	"testing"

	"coxswain/broker"
)

// P15.3: Ack and Nack by workers that have none, twice in a row: with no item, with one that waits, that is put off, and that another one has.
func TestGiveByAWorkerThatHasNone(t *testing.T) {
	e := eval(1, 50, 4)
	h := hand{t, broker.New()}
	h.refused(farNumbers()...)

	h = ask(t, e)
	h.refused(farNumbers()...)
	h.items(1)
	h.putOff(1, e)
	h.refused(farNumbers()...)
	h.getsNone(1)
	h.ticks(tickDelay - 1)
	h.refused(farNumbers()...)
	h.getsNone(1)
	h.ticks(1)
	h.gets(77, e)
	h.refused(farNumbers()...)
	h.has(77, e)
	h.items(1)
	h.ticks(tickNack - 1)
	h.refused(farNumbers()...)
	h.has(77, e)
	h.ticks(1)
	h.hasNone(77)
	h.round(77, maxDeliver-1, e)
	h.getsNone(77)
}

// P15.3: an Ack lets the worker's own go, and that alone; it comes no more of itself.
func TestAck(t *testing.T) {
	one, two, three := eval(1, 50, 4), eval(2, 40, 4), eval(3, 30, 4)
	for _, worker := range farNumbers() {
		h := ask(t, one, two, three)
		h.gets(7000, one)
		h.gets(worker, two)
		h.acks(worker)
		h.items(2)
		h.has(7000, one)
		h.gets(worker, three)
		h.acks(worker)
		h.items(1)
		h.getsNone(worker, 7001)
		h.has(7000, one)
		h.acks(7000)
		h.items(0)
		h.ticks(tickNack + tickDelay + 1)
		h.getsNone(worker, 7000)
	}
}

// P15.3: a Nack gives the worker's own back, and that alone; who gets it next may be anyone.
func TestNack(t *testing.T) {
	one, two := eval(1, 50, 4), eval(2, 40, 4)
	for _, worker := range farNumbers() {
		h := ask(t, one, two)
		h.gets(7000, one)
		h.gets(worker, two)
		h.nacks(worker)
		h.items(2)
		h.has(7000, one)
		h.gets(7001, two)
		h.getsNone(worker)
		h.nacks(7000)
		h.gets(worker, one)
		h.has(7001, two)
		h.getsNone(7000)
		h.items(2)
	}
}

// P15.3: a Nack ahead of MaxDeliver leaves the item to be had at once; at it the item is put off, whichever workers had it.
func TestNackAheadOfMaxDeliverAndAtIt(t *testing.T) {
	e, other := eval(1, 50, 4), eval(2, 40, 4)
	h := ask(t, e, other)
	for i := range maxDeliver - 1 {
		h.gets(10+i, e)
		h.nacks(10 + i)
	}
	h.gets(-5, e)
	h.nacks(-5)
	h.items(2)
	h.gets(10, other)
	h.getsNone(11, -5)
	h.has(10, other)
}

// P15.3, P15.4: behind a Nack at MaxDeliver: TickDelay Ticks, one less, and one more.
func TestPutOffForTickDelay(t *testing.T) {
	e := eval(1, 50, 4)
	for ticks := range tickDelay {
		h := ask(t, e)
		h.putOff(1, e)
		h.ticks(ticks)
		h.getsNone(1, 2)
		h.items(1)
	}
	for _, ticks := range []int{tickDelay, tickDelay + 1, 10 * tickDelay} {
		h := ask(t, e)
		h.putOff(1, e)
		h.ticks(ticks)
		h.gets(2, e)
		h.getsNone(1)
		h.items(1)
	}
	h := ask(t, e)
	h.putOff(1, e)
	for range tickDelay {
		h.getsNone(1)
		h.ticks(1)
	}
	h.gets(1, e)
}

// P15.3: an item that was put off has the count 0 from then on: it is put off anew behind MaxDeliver more, not ahead of that, nor behind.
func TestCountBeginsAnewBehindPuttingOff(t *testing.T) {
	e := eval(1, 50, 4)
	h := ask(t, e)
	for range 5 {
		h.putOff(1, e)
		h.getsNone(1)
		h.ticks(tickDelay - 1)
		h.getsNone(1)
		h.ticks(1)
	}
	h.inOrder(e)
}

// P15.3: each item has its own count, and is put off for itself.
func TestEachItemHasItsOwnCount(t *testing.T) {
	one, two, three := eval(1, 50, 4), eval(2, 40, 4), eval(3, 30, 4)
	h := ask(t, one, two, three)
	h.inOrder(one, two, three)
	h.inOrder(one, two, three)
	h.gets(1, one)
	h.gets(2, two)
	h.nacks(2)
	h.ticks(2)
	h.nacks(1)
	h.gets(1, three)
	h.acks(1)
	h.getsNone(1)
	h.ticks(tickDelay - 3)
	h.getsNone(1)
	h.ticks(1)
	h.gets(1, two)
	h.getsNone(2)
	h.ticks(1)
	h.getsNone(2)
	h.ticks(1)
	h.gets(2, one)
	h.items(2)
}

// P15.3: an Ack at MaxDeliver lets the item go as any other.
func TestAckAtMaxDeliver(t *testing.T) {
	e := eval(1, 50, 4)
	h := ask(t, e)
	h.round(1, maxDeliver-1, e)
	h.gets(1, e)
	h.acks(1)
	h.items(0)
	h.told(e)
	h.putOff(1, e)
	h.getsNone(1)
}
