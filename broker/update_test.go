package broker_test

import (
	"testing"

	"coxswain/api"
)

// P15.1: of evaluations in any State only those that are EvalPending are items.
func TestUpdateOfEachState(t *testing.T) {
	for _, state := range append(farNumbers(), evalBlocked, evalDone, 4) {
		e := in(state, eval(5, 60, 7))
		if state == evalPending {
			ask(t, e).inOrder(e)
			continue
		}
		h := ask(t, e)
		h.items(0)
		h.getsNone(1)
		h = ask(t, e, eval(6, 1, 9), in(state, eval(7, 99, 1)))
		h.items(1)
		h.inOrder(eval(6, 1, 9))
	}
}

// P15.1: without evaluations nothing comes, and what nobody has goes.
func TestUpdateOfNone(t *testing.T) {
	for _, none := range [][]api.Eval{nil, {}, {in(evalDone, eval(1, 5, 5))}} {
		h := ask(t, none...)
		h.items(0)
		h.getsNone(1)
		h = ask(t, eval(1, 50, 4), eval(2, 70, 9), eval(3, 70, 8))
		h.told(none...)
		h.items(0)
		h.getsNone(1)
	}
}

// P15.1: of two evaluations of one job that are pending the later one is the item's; one that is not pending says nothing.
func TestUpdateOfTwoOfOneJob(t *testing.T) {
	first, second, third := eval(1, 90, 4), eval(1, 10, 9), eval(1, 40, 6)
	other := eval(2, 50, 5)
	h := ask(t, first, second, other)
	h.items(2)
	h.inOrder(other, second)
	h = ask(t, second, other, third, first)
	h.items(2)
	h.inOrder(first, other)

	for _, state := range []int{evalBlocked, evalDone, 0} {
		h = ask(t, first, in(state, second))
		h.items(1)
		h.inOrder(first)
		h = ask(t, in(state, first), second)
		h.items(1)
		h.inOrder(second)
		h.told(in(state, first), third, in(state, second))
		h.items(1)
		h.inOrder(third)
		h.told(in(state, first), in(state, second))
		h.items(0)
	}
}

// P15.1: the same once more, of an item that a worker has: of both nothing is taken.
func TestUpdateOfTwoOfOneJobThatAWorkerHas(t *testing.T) {
	was := eval(1, 50, 3)
	h := ask(t, was)
	h.gets(7, was)
	h.told(eval(1, 90, 4), eval(1, 10, 9), eval(2, 20, 5))
	h.items(2)
	h.has(7, was)
	h.inOrder(eval(2, 20, 5))
	h.nacks(7)
	h.inOrder(was, eval(2, 20, 5))
	h.told(eval(1, 90, 4), eval(1, 10, 9), eval(2, 20, 5))
	h.items(2)
	h.gets(1, eval(2, 20, 5))
	h.gets(2, eval(1, 10, 9))
}

// P15.1: one whose item is there, and one whose item is not: the first is the item's evaluation now, the other one a new item.
func TestUpdateOfOneThatIsThereAndOneThatIsNot(t *testing.T) {
	h := ask(t, eval(1, 50, 4))
	h.told(eval(1, 30, 6), eval(2, 40, 5))
	h.items(2)
	h.inOrder(eval(2, 40, 5), eval(1, 30, 6))
	h.told(eval(1, 60, 7), eval(2, 40, 5))
	h.items(2)
	h.inOrder(eval(1, 60, 7), eval(2, 40, 5))
	h.told(eval(2, 40, 5), eval(3, 40, 5))
	h.items(2)
	h.gets(1, eval(2, 40, 5))
	h.gets(2, eval(3, 40, 5))
	h.getsNone(3)
}

// P15.1: the same store again changes nothing.
func TestUpdateOfTheSame(t *testing.T) {
	all := []api.Eval{eval(1, 50, 4), eval(2, 70, 9), eval(3, 70, 8), in(evalDone, eval(4, 99, 1))}
	h := ask(t, all...)
	for range 3 {
		h.told(all...)
		h.items(3)
	}
	h.gets(1, all[2])
	for range 3 {
		h.told(all...)
		h.items(3)
		h.has(1, all[2])
	}
	h.inOrder(all[1], all[0])
	h.nacks(1)
	h.told(all...)
	h.round(2, maxDeliver-1, all[2])
	h.told(all...)
	h.inOrder(all[1], all[0])
	h.ticks(tickDelay - 1)
	h.told(all...)
	h.worksOff(1, all[1], all[0])
	h.ticks(1)
	h.told(all...)
	h.gets(1, all[2])
}

// P15.1: an evaluation that changes takes its item to another place, ahead or behind; the count stays.
func TestUpdateKeepsTheCount(t *testing.T) {
	one, two := eval(1, 50, 4), eval(2, 40, 4)
	h := ask(t, one, two)
	h.round(1, maxDeliver-1, one)
	one.Priority, one.Index = 45, 9
	h.told(one, two)
	h.items(2)
	h.gets(1, one)
	h.nacks(1)
	h.gets(1, two)
	h.getsNone(2)
	h.ticks(tickDelay)
	h.gets(2, one)
}

// P15.1: while a worker has an item its evaluation may change: nothing of the item does.
func TestUpdateWhileAWorkerHasIt(t *testing.T) {
	was, now := eval(1, 50, 4), eval(1, 90, 8)
	h := ask(t, was, eval(2, 70, 5))
	h.gets(1, eval(2, 70, 5))
	h.gets(2, was)
	h.told(now, eval(2, 10, 9))
	h.items(2)
	h.has(2, was)
	h.has(1, eval(2, 70, 5))
	h.getsNone(1, 2, 3)
	h.nacks(2)
	h.gets(3, was)
	h.told(now, eval(2, 10, 9))
	h.has(3, was)
	h.nacks(3)
	h.told(now, eval(2, 10, 9))
	h.gets(3, now)
	h.nacks(3)
	h.getsNone(3)
	h.acks(1)
	h.told(now, eval(2, 10, 9))
	h.items(2)
	h.gets(1, eval(2, 10, 9))
	h.getsNone(2)
}

// P15.1, P15.4: an Update does not begin the worker's time anew.
func TestUpdateWhileAWorkersTimeGoes(t *testing.T) {
	h := ask(t, eval(1, 50, 4))
	h.gets(1, eval(1, 50, 4))
	for i := range tickNack - 1 {
		h.ticks(1)
		h.told(eval(1, 50, 10+i))
		h.has(1, eval(1, 50, 4))
	}
	h.ticks(1)
	h.hasNone(1)
	h.inOrder(eval(1, 50, 4))
}

// P15.1: while a worker has an item its evaluation may go, or be pending no more: the item stays, till the worker has it no more.
func TestUpdateWithoutOneThatAWorkerHas(t *testing.T) {
	was, other := eval(1, 50, 4), eval(2, 20, 5)
	for _, left := range [][]api.Eval{nil, {other}, {in(evalBlocked, was)}, {in(evalDone, was), other}, {other, in(evalDone, eval(1, 90, 8))}} {
		others := 0
		for _, e := range left {
			if e == other {
				others++
			}
		}
		h := ask(t, was, other)
		h.gets(1, was)
		h.told(left...)
		h.items(1 + others)
		h.has(1, was)
		h.told(left...)
		h.has(1, was)
		h.acks(1)
		h.items(others)

		h = ask(t, was, other)
		h.gets(1, was)
		h.told(left...)
		h.nacks(1)
		h.items(1 + others)
		h.gets(2, was)
		h.told(left...)
		h.has(2, was)
		h.nacks(2)
		h.told(left...)
		h.items(others)
		if others > 0 {
			h.gets(1, other)
		}
		h.getsNone(3)

		h = ask(t, was, other)
		h.gets(1, was)
		h.told(left...)
		h.ticks(tickNack)
		h.hasNone(1)
		h.items(1 + others)
		h.told(left...)
		h.items(others)
	}
}

// P15.1: an item that a worker has stays of its job alone: another job's evaluation with all its other numbers is another item.
func TestUpdateTellsItemsByTheirJobs(t *testing.T) {
	h := ask(t, eval(1, 50, 4))
	h.gets(1, eval(1, 50, 4))
	h.told(eval(2, 50, 4))
	h.items(2)
	h.gets(2, eval(2, 50, 4))
	h.told(eval(3, 50, 4))
	h.items(3)
	h.acks(1)
	h.acks(2)
	h.told(eval(3, 50, 4))
	h.items(1)
}

// P15.1: an item that is put off has the evaluation of now, and stays put off as long as it was.
func TestUpdateWhileItIsPutOff(t *testing.T) {
	for passed := range tickDelay {
		h := ask(t, eval(1, 50, 4), eval(2, 20, 5))
		h.putOff(1, eval(1, 50, 4))
		h.ticks(passed)
		now := eval(1, 90, 8)
		h.told(now, eval(2, 20, 5))
		h.items(2)
		h.gets(1, eval(2, 20, 5))
		h.getsNone(2)
		h.ticks(tickDelay - passed - 1)
		h.getsNone(2)
		now.Priority, now.Index = 95, 9
		h.told(now, eval(2, 20, 5))
		h.getsNone(2)
		h.ticks(1)
		h.putOff(2, now)
		h.getsNone(2)
	}
}

// P15.1: an item that goes and comes again is a new one: with the count 0, and not put off.
func TestGoesAndComesAgain(t *testing.T) {
	e := eval(1, 50, 4)
	for handed := range maxDeliver {
		h := ask(t, e)
		h.round(1, handed, e)
		h.told()
		h.items(0)
		h.getsNone(1)
		h.told(e)
		h.items(1)
		h.putOff(1, e)
		h.getsNone(1)
	}
	for passed := range tickDelay {
		h := ask(t, e, eval(2, 1, 1))
		h.putOff(1, e)
		h.ticks(passed)
		h.told(eval(2, 1, 1))
		h.items(1)
		h.told(e, eval(2, 1, 1))
		h.items(2)
		h.putOff(1, e)
		h.gets(1, eval(2, 1, 1))
		h.ticks(tickDelay - 1)
		h.getsNone(2)
		h.ticks(1)
		h.gets(2, e)
	}
}

// P15.1, P15.3: one that was acknowledged, and is pending still, or again, comes as a new item.
func TestAcknowledgedAndPendingStill(t *testing.T) {
	e := eval(1, 50, 4)
	h := ask(t, e)
	h.round(1, maxDeliver-1, e)
	h.gets(1, e)
	h.acks(1)
	h.items(0)
	h.getsNone(1)
	h.ticks(tickNack + tickDelay)
	h.getsNone(1)
	h.told(e)
	h.items(1)
	h.putOff(2, e)
	h.getsNone(1)
	h.told(in(evalDone, e))
	h.items(0)
	h.told(eval(1, 50, 9))
	h.inOrder(eval(1, 50, 9))
}
