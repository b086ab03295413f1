package broker_test

import (
	"math/rand"
	"slices"
	"testing"

	"coxswain/api"
	"coxswain/broker"
)

// walk is a run of calls as it is seen from outside, with no word of the chapter but what is promised behind all.
type walk struct {
	hand
	workers []int
	there   map[int]struct{} // the jobs whose items there must be
	handed  int
}

// calls makes so many calls of any kind.
func (w *walk) calls(dice *rand.Rand, count, most, jobs int, often habits) {
	w.Helper()
	for range count {
		worker := w.workers[dice.Intn(len(w.workers))]
		switch often.next(dice) {
		case 0:
			w.update(anyEvals(dice, most, jobs))
		case 1:
			w.dequeue(worker)
		case 2:
			if was, had := w.Held(worker); had {
				delete(w.there, was.Job)
				w.acks(worker)
			} else {
				w.refused(worker)
			}
		case 3:
			if _, had := w.Held(worker); had {
				w.nacks(worker)
			} else {
				w.refused(worker)
			}
		default:
			w.ticks(1)
		}
		w.apart()
		w.items(len(w.there))
	}
}

// update is an Update; behind it there are the items of what is pending, and of what a worker has.
func (w *walk) update(evals []api.Eval) {
	w.Helper()
	before := w.hadNow()
	w.told(evals...)
	if now := w.hadNow(); !slices.Equal(now, before) {
		w.Fatalf("an Update changed what the workers have: %+v, ahead of it %+v", now, before)
	}
	w.there = map[int]struct{}{}
	for _, e := range append(slices.Clone(evals), before...) {
		if e.State == evalPending {
			w.there[e.Job] = struct{}{}
		}
	}
}

// hadNow are the evaluations that the workers have, in the workers' order.
func (w *walk) hadNow() []api.Eval {
	var out []api.Eval
	for _, worker := range w.workers {
		if e, there := w.Held(worker); there {
			out = append(out, e)
		}
	}
	return out
}

// dequeue is a Dequeue, by which nobody may get what another one has, or a second one.
func (w *walk) dequeue(worker int) {
	w.Helper()
	before := w.hadNow()
	_, had := w.Held(worker)
	e, there := w.Dequeue(worker)
	switch {
	case !there:
		if now := w.hadNow(); e != (api.Eval{}) || !slices.Equal(now, before) {
			w.Fatalf("Dequeue(%d) of nothing: %+v; the workers have %+v, ahead of it %+v", worker, e, now, before)
		}
		return
	case had:
		w.Fatalf("Dequeue(%d) of a second one: %+v", worker, e)
	case slices.ContainsFunc(before, func(other api.Eval) bool { return other.Job == e.Job }):
		w.Fatalf("Dequeue(%d) of what another one has: %+v", worker, e)
	}
	if _, pending := w.there[e.Job]; !pending {
		w.Fatalf("Dequeue(%d) of what there is not: %+v", worker, e)
	}
	w.has(worker, e)
	w.handed++
}

// apart holds P15.5: no two workers have an evaluation of one job.
func (w *walk) apart() {
	w.Helper()
	all := w.hadNow()
	for i, e := range all {
		for _, other := range all[:i] {
			if e.Job == other.Job {
				w.Fatalf("two workers have the job %d: %+v", e.Job, all)
			}
		}
	}
}

// left holds P15.6 at the run's end: behind TickNack and TickDelay Ticks each item that there must be is handed out, and no other, once each if they are acknowledged; nobody has one then.
func (w *walk) left() {
	w.Helper()
	w.ticks(tickNack + tickDelay)
	w.hasNone(w.workers...)
	before, first := api.Eval{}, true
	for len(w.there) > 0 {
		e, there := w.Dequeue(5)
		if !there {
			w.Fatalf("nothing may be had, while there must be %v", w.there)
		}
		if _, pending := w.there[e.Job]; !pending {
			w.Fatalf("%+v was handed out, while there must be only %v", e, w.there)
		}
		if !first && !ahead(before, e) {
			w.Fatalf("%+v was handed out behind %+v", e, before)
		}
		before, first = e, false
		delete(w.there, e.Job)
		w.acks(5)
	}
	w.getsNone(5)
	w.items(0)
}

// P15.5, P15.6: long runs of any calls.
func TestWalks(t *testing.T) {
	handed := 0
	for seed := range int64(600) {
		dice := rand.New(rand.NewSource(seed))
		w := &walk{hand: hand{t, broker.New()}, workers: anyWorkers(dice), there: map[int]struct{}{}}
		for range 5 {
			w.calls(dice, 1+dice.Intn(200), 1+dice.Intn(12), 1+dice.Intn(9), anyHabits(dice))
			w.left()
		}
		handed += w.handed
	}
	if handed < 20000 {
		t.Errorf("only %d were handed out in the runs", handed)
	}
}

// P15.6: what is pending, and is never acknowledged, is handed out again and again, if there are workers enough: with TickNack and TickDelay Ticks between at most, whatever changes of it.
func TestHandedOutAgainAndAgain(t *testing.T) {
	for seed := range int64(50) {
		dice := rand.New(rand.NewSource(seed))
		h := hand{t, broker.New()}
		var last [6]int
		for now := range 2000 {
			var evals []api.Eval
			for job := range last {
				evals = append(evals, eval(job, dice.Intn(100), dice.Intn(100)))
			}
			h.told(evals...)
			for worker := range last {
				if e, there := h.Dequeue(worker); there {
					last[e.Job] = now
				}
			}
			for worker := range last {
				if dice.Intn(10) == 0 {
					h.Nack(worker)
				}
			}
			for job, at := range last {
				if now-at > tickNack+tickDelay {
					t.Fatalf("seed %d: the job %d was handed out at the Tick %d last, and now it is %d", seed, job, at, now)
				}
			}
			h.ticks(1)
			h.items(len(last))
		}
	}
}

// P15.6: one that is given back each time is put off, and the others come, however little they weigh: each of them is handed out, and acknowledged, at last.
func TestTheOthersCome(t *testing.T) {
	stays := eval(1, 100, 0)
	all := []api.Eval{stays}
	for job := 2; job <= 40; job++ {
		all = append(all, eval(job, 1, job))
	}
	h := ask(t, all...)
	for range 40 * (maxDeliver + 1) {
		e, there := h.Dequeue(1)
		switch {
		case !there:
			h.ticks(1)
		case e == stays:
			h.nacks(1)
		default:
			h.acks(1)
		}
	}
	h.items(1)
	h.ticks(tickDelay)
	h.gets(1, stays)
}
