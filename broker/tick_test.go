package broker_test

import (
	"testing"

	"coxswain/api"
)

// P15.4: a worker has an item for TickNack Ticks, no less and no more; then it may be had.
func TestTickNackTicksWithAWorker(t *testing.T) {
	e := eval(1, 50, 4)
	for _, worker := range farNumbers() {
		h := ask(t, e)
		h.gets(worker, e)
		for range tickNack - 1 {
			h.ticks(1)
			h.has(worker, e)
			h.getsNone(worker, 7000)
		}
		h.ticks(1)
		h.items(1)
		h.refused(worker)
		h.gets(7000, e)
		h.hasNone(worker)

		h = ask(t, e)
		h.gets(worker, e)
		h.ticks(tickNack + 1)
		h.refused(worker)
		h.gets(worker, e)
	}
}

// P15.4: one Tick ahead of TickNack its Ack and its Nack are in time.
func TestGiveJustInTime(t *testing.T) {
	e := eval(1, 50, 4)
	h := ask(t, e)
	h.gets(1, e)
	h.ticks(tickNack - 1)
	h.acks(1)
	h.ticks(1)
	h.items(0)
	h.getsNone(1)

	h = ask(t, e)
	h.gets(1, e)
	h.ticks(tickNack - 1)
	h.nacks(1)
	h.ticks(1)
	h.gets(1, e)
	h.nacks(1)
	h.gets(1, e)
	h.nacks(1)
	h.getsNone(1)
}

// P15.2, P15.4: each time it is handed out, the worker has it for 0 Ticks; the Ticks while it waits do not count.
func TestEachHandOutHasItsOwnTime(t *testing.T) {
	e := eval(1, 50, 4)
	h := ask(t, e)
	h.ticks(tickNack * 3)
	h.gets(1, e)
	h.ticks(tickNack - 1)
	h.has(1, e)
	h.nacks(1)
	h.gets(1, e)
	h.ticks(tickNack - 1)
	h.has(1, e)
	h.ticks(1)
	h.hasNone(1)
	h.ticks(tickNack - 1)
	h.gets(2, e)
	h.ticks(tickNack - 1)
	h.has(2, e)
	h.ticks(1)
	h.hasNone(2)
	h.getsNone(1, 2)
	h.ticks(tickDelay)
	h.gets(3, e)
	h.ticks(tickNack - 1)
	h.has(3, e)
	h.ticks(1)
	h.hasNone(3)
	h.gets(4, e)
}

// P15.4: of several items each has its own time.
func TestSeveralTimes(t *testing.T) {
	one, two, three := eval(1, 50, 4), eval(2, 40, 4), eval(3, 30, 4)
	h := ask(t, one, two, three)
	h.gets(1, one)
	h.ticks(5)
	h.gets(2, two)
	h.ticks(4)
	h.gets(3, three)
	h.ticks(2)
	h.has(1, one)
	h.ticks(1)
	h.hasNone(1)
	h.has(2, two)
	h.has(3, three)
	h.ticks(4)
	h.has(2, two)
	h.ticks(1)
	h.hasNone(2)
	h.has(3, three)
	h.ticks(3)
	h.has(3, three)
	h.ticks(1)
	h.hasNone(1, 2, 3)
	h.inOrder(one, two, three)
}

// P15.4: several items come to TickNack in one Tick: all of them are taken, in whatever order they came and were handed out.
func TestSeveralComeToTickNackInOneTick(t *testing.T) {
	all := []api.Eval{eval(3, 50, 9), eval(1, 50, 9), eval(4, 90, 7), eval(2, 10, 1)}
	want := []api.Eval{all[2], all[1], all[0], all[3]}
	h := ask(t, all...)
	for i, e := range want {
		h.gets(i, e)
	}
	h.ticks(tickNack - 1)
	for i, e := range want {
		h.has(i, e)
	}
	h.getsNone(9)
	h.ticks(1)
	h.refused(0, 1, 2, 3)
	h.items(4)
	h.inOrder(want...)
	for i, e := range want {
		h.gets(10+i, e)
	}
	h.ticks(tickNack)
	h.refused(10, 11, 12, 13)
	h.getsNone(9)
	h.ticks(tickDelay)
	h.items(4)
	h.inOrder(want...)
}

// P15.4: an item that a Tick takes from its worker at MaxDeliver is put off: from then on, for TickDelay Ticks more; ahead of that it may be had at once.
func TestTickAtMaxDeliver(t *testing.T) {
	e, other := eval(1, 50, 4), eval(2, 40, 4)
	h := ask(t, e, other)
	for range maxDeliver - 1 {
		h.gets(1, e)
		h.ticks(tickNack)
		h.hasNone(1)
	}
	h.gets(1, e)
	h.ticks(tickNack)
	h.hasNone(1)
	h.items(2)
	h.gets(1, other)
	h.acks(1)
	for range tickDelay {
		h.getsNone(1)
		h.ticks(1)
	}
	h.putOff(1, e)
	h.getsNone(1)
	h.items(1)
}

// P15.3, P15.4: Nacks and Ticks that take an item count alike.
func TestNacksAndTicksCountAlike(t *testing.T) {
	e := eval(1, 50, 4)
	for way := range 1 << maxDeliver {
		h := ask(t, e)
		for i := range maxDeliver {
			h.gets(i, e)
			if way>>i&1 == 1 {
				h.ticks(tickNack)
			} else {
				h.nacks(i)
			}
			h.refused(i)
		}
		h.ticks(tickDelay - 1)
		h.getsNone(1)
		h.ticks(1)
		h.putOff(1, e)
		h.getsNone(1)
	}
}

// P15.4: in one Tick one is put off no more, one is taken from its worker, one is put off, and one stays with its worker.
func TestAllKindsInOneTick(t *testing.T) {
	back, taken, off, stays := eval(1, 90, 4), eval(2, 70, 4), eval(3, 50, 4), eval(4, 30, 4)
	h := ask(t, back, taken, off, stays)
	h.gets(1, back)
	h.gets(2, taken)
	h.round(3, maxDeliver-1, off)
	h.gets(3, off)
	h.ticks(tickNack - tickDelay)
	h.nacks(1)
	h.round(1, maxDeliver-1, back)
	h.gets(4, stays)
	h.getsNone(1)
	h.ticks(tickDelay - 1)
	h.getsNone(1)
	h.has(2, taken)
	h.has(3, off)
	h.has(4, stays)
	h.ticks(1)
	h.refused(1, 2, 3)
	h.has(4, stays)
	h.gets(5, back)
	h.gets(6, taken)
	h.getsNone(7)
	h.ticks(tickDelay - 1)
	h.getsNone(7)
	h.has(4, stays)
	h.ticks(1)
	h.hasNone(4)
	h.gets(7, off)
	h.gets(8, stays)
	h.items(4)
}

// P15.4: Ticks alone bring nothing and take nothing.
func TestTicksAlone(t *testing.T) {
	one, two := eval(1, 50, 4), eval(2, 40, 4)
	h := ask(t, one, two)
	h.ticks(1000)
	h.items(2)
	h.round(1, maxDeliver-1, one)
	h.ticks(1000)
	h.gets(1, one)
	h.nacks(1)
	h.gets(1, two)
	h.getsNone(2)
	h.ticks(1000)
	h.inOrder(one, two)
}

// P15.4: Len counts what waits, what is put off, and what a worker has.
func TestLen(t *testing.T) {
	waits, off, had := eval(1, 10, 4), eval(2, 90, 4), eval(3, 80, 4)
	h := ask(t, waits, off, had)
	h.putOff(1, off)
	h.gets(1, had)
	h.items(3)
	h.told(waits, had)
	h.items(2)
	h.told(had)
	h.items(1)
	h.told()
	h.items(1)
	h.told(waits, off)
	h.items(3)
	h.acks(1)
	h.items(2)
	h.ticks(tickNack + tickDelay)
	h.items(2)
	h.told()
	h.items(0)
}
