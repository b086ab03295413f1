package broker_test

import (
	"math"
	"math/rand"
	"slices"
	"testing"

	"coxswain/api"
	"coxswain/broker"
)

// P15.2: with no item nothing is handed out, whoever asks: there never was one, the only one went, or was acknowledged.
func TestDequeueWithNoItem(t *testing.T) {
	e := eval(1, 50, 4)
	h := hand{t, broker.New()}
	h.getsNone(farNumbers()...)
	h.told(e)
	h.told()
	h.getsNone(farNumbers()...)
	h.told(e)
	h.gets(1, e)
	h.acks(1)
	h.getsNone(farNumbers()...)
	h.items(0)
	h.told(e)
	h.gets(1, e)
}

// P15.2: a worker that has one gets no other one, asks it as often as it will; the others do, and what it was refused is not counted.
func TestDequeueByAWorkerThatHasOne(t *testing.T) {
	one, two := eval(1, 50, 4), eval(2, 40, 4)
	for _, worker := range farNumbers() {
		h := ask(t, one, two)
		h.gets(worker, one)
		h.getsNone(worker, worker, worker, worker)
		h.items(2)
		h.has(worker, one)
		h.nacks(worker)
		h.gets(worker, one)
		h.getsNone(worker, worker)
		h.nacks(worker)
		h.gets(worker, one)
		h.gets(7000, two)
		h.getsNone(worker, 7000)
		h.nacks(7000)
		h.getsNone(worker)
		h.gets(7001, two)
		h.nacks(worker)
		h.getsNone(worker)
		h.items(2)
	}
}

// P15.2: with all items put off, or with workers, nothing may be had.
func TestDequeueWithAllPutOffOrWithWorkers(t *testing.T) {
	one, two, three := eval(1, 50, 4), eval(2, 40, 4), eval(3, 30, 4)
	h := ask(t, one, two, three)
	h.gets(1, one)
	h.gets(2, two)
	h.gets(3, three)
	h.getsNone(4, 5, 0, -1)
	h.items(3)

	h = ask(t, one, two, three)
	h.putOff(1, one)
	h.putOff(1, two)
	h.putOff(1, three)
	h.getsNone(1, 2, 3)
	h.items(3)
	h.ticks(tickDelay - 1)
	h.getsNone(1, 2, 3)
	h.ticks(1)
	h.inOrder(one, two, three)

	h = ask(t, one, two, three)
	h.putOff(1, one)
	h.gets(1, two)
	h.putOff(2, three)
	h.getsNone(1, 2, 3)
	h.items(3)
	h.nacks(1)
	h.gets(3, two)
	h.getsNone(1, 2, 3)
}

// P15.2: what is put off, or with a worker, is passed over, be it ever so far ahead, or behind.
func TestDequeuePassesOver(t *testing.T) {
	all := []api.Eval{eval(1, 90, 4), eval(2, 70, 4), eval(3, 50, 4), eval(4, 30, 4)}
	for off := range all {
		h := ask(t, all...)
		for _, e := range all[:off] {
			h.gets(100+e.Job, e)
		}
		h.putOff(1, all[off])
		for _, e := range all[:off] {
			h.nacks(100 + e.Job)
		}
		left := slices.Delete(slices.Clone(all), off, off+1)
		h.inOrder(left...)
		h.items(4)
		h.gets(1, left[0])
		h.gets(2, left[1])
		h.gets(3, left[2])
		h.getsNone(4)
	}
}

// ahead tells whether one is handed out ahead of another one: P15.2, word by word.
func ahead(a, b api.Eval) bool {
	switch {
	case a.Priority != b.Priority:
		return a.Priority > b.Priority
	case a.Index != b.Index:
		return a.Index < b.Index
	default:
		return a.Job < b.Job
	}
}

// P15.2: the greatest Priority, of the same the least Index, of the same the least Job: of any two, with all numbers that the type has.
func TestDequeueOfTwo(t *testing.T) {
	numbers := []int{math.MinInt, -1, 0, 1, 1 << 40, math.MaxInt}
	var all []api.Eval
	for _, job := range numbers {
		for _, priority := range numbers {
			for _, index := range numbers {
				all = append(all, eval(job, priority, index))
			}
		}
	}
	for _, a := range all {
		for _, b := range all {
			if a.Job == b.Job {
				continue
			}
			first, second := a, b
			if ahead(b, a) {
				first, second = b, a
			}
			h := ask(t, a, b)
			h.gets(1, first)
			h.gets(2, second)
			h.items(2)
		}
	}
}

// P15.2: the edges of the order, written out: each one's place is held by one of its three numbers alone.
func TestDequeueOrder(t *testing.T) {
	want := []api.Eval{
		eval(9, math.MaxInt, math.MaxInt),
		eval(8, 100, 9),
		eval(7, 70, math.MinInt),
		eval(6, 70, -1),
		eval(4, 70, 5), eval(5, 70, 5), eval(11, 70, 5),
		eval(3, 70, 6),
		eval(2, 50, 1),
		eval(1, 0, 0),
		eval(-3, -1, 0), eval(0, -1, 0),
		eval(10, math.MinInt, math.MinInt),
	}
	dice := rand.New(rand.NewSource(15))
	for range 500 {
		came := slices.Clone(want)
		dice.Shuffle(len(came), func(i, j int) { came[i], came[j] = came[j], came[i] })
		h := ask(t, came...)
		h.items(len(want))
		h.inOrder(want...)
		slices.Reverse(came)
		h.told(came...)
		h.inOrder(want...)
	}
}

// P15.2: an item that comes back, or comes later, stands where its numbers tell, not behind or ahead of those that waited.
func TestDequeueOfOneThatComesBack(t *testing.T) {
	first, middle, last := eval(1, 90, 4), eval(2, 50, 4), eval(3, 10, 4)
	h := ask(t, first, middle, last)
	h.gets(1, first)
	h.gets(2, middle)
	h.nacks(2)
	h.nacks(1)
	h.inOrder(first, middle, last)

	h = ask(t, last)
	h.told(last, middle)
	h.told(last, middle, first)
	h.inOrder(first, middle, last)

	h = ask(t, middle, last)
	h.gets(1, middle)
	h.told(first, middle, last)
	h.nacks(1)
	h.inOrder(first, middle, last)

	h = ask(t, first, middle, last)
	h.putOff(1, first)
	h.gets(1, middle)
	h.ticks(tickDelay)
	h.gets(2, first)
	h.nacks(1)
	h.gets(1, middle)
	h.gets(3, last)
}

// P15.2: Held of a worker that has one, as often as it is asked, and of all others.
func TestHeld(t *testing.T) {
	one, two := eval(1, 50, 4), eval(2, 40, 4)
	for _, worker := range farNumbers() {
		others := slices.DeleteFunc(farNumbers(), func(n int) bool { return n == worker })
		h := ask(t, one, two)
		h.hasNone(farNumbers()...)
		h.gets(worker, one)
		h.has(worker, one)
		h.has(worker, one)
		h.hasNone(others...)
		h.getsNone(worker)
		h.has(worker, one)
		h.refused(others...)
		h.has(worker, one)
		h.nacks(worker)
		h.hasNone(farNumbers()...)
		h.gets(worker, one)
		h.acks(worker)
		h.hasNone(farNumbers()...)
		h.gets(worker, two)
		h.hasNone(others...)
	}
}

// P15.2, P15.5: workers of any numbers have one each, at one time; the zero worker has none that nobody has.
func TestWorkersOfAnyNumbers(t *testing.T) {
	workers := farNumbers()
	var all []api.Eval
	for i := range workers {
		all = append(all, eval(i, 0, i))
	}
	h := ask(t, all...)
	h.hasNone(workers...)
	for i, worker := range workers {
		h.gets(worker, all[i])
		h.hasNone(workers[i+1:]...)
	}
	h.getsNone(workers...)
	h.getsNone(42)
	for i, worker := range workers {
		h.has(worker, all[i])
	}
	for i, worker := range workers {
		if i%2 == 0 {
			h.acks(worker)
		} else {
			h.nacks(worker)
		}
	}
	h.items(len(workers) / 2)
	h.hasNone(workers...)
	for i := range workers {
		if i%2 == 1 {
			h.gets(workers[i-1], all[i])
		}
	}
	h.getsNone(42)
}

// P15.2: evaluations of any numbers are handed out just as they came.
func TestEvaluationsOfAnyNumbers(t *testing.T) {
	for _, job := range farNumbers() {
		for _, priority := range farNumbers() {
			for _, index := range farNumbers() {
				e := eval(job, priority, index)
				h := ask(t, e)
				h.items(1)
				h.gets(1, e)
				h.told()
				h.has(1, e)
				h.told(e)
				h.items(1)
				h.nacks(1)
				h.told()
				h.items(0)
			}
		}
	}
}
