package broker_test

import (
	"math/rand"
	"slices"
	"testing"

	"coxswain/api"
	"coxswain/broker"
)

// roomy is the same list in new memory, with spare room that is filled with evaluations that would count.
func roomy(list []api.Eval) []api.Eval {
	return append(slices.Clone(list), eval(77, 1000, -1), eval(78, 1000, -1))[:len(list)]
}

// R4: what is handed in stays, its spare room too, into which nobody looks; not by an Update, nor by what comes behind it.
func TestWhatIsHandedInStays(t *testing.T) {
	dice := rand.New(rand.NewSource(15))
	for range 2000 {
		b := broker.New()
		var handed, were [][]api.Eval
		for range 10 {
			evals := roomy(anyEvals(dice, 8, 6))
			handed, were = append(handed, evals), append(were, slices.Clone(evals[:cap(evals)]))
			b.Update(of(evals...))
			for worker := range 4 {
				if e, _ := b.Dequeue(worker); e.Job >= 77 {
					t.Fatalf("%+v stands in the spare room", e)
				}
				switch dice.Intn(4) {
				case 0:
					b.Ack(worker)
				case 1:
					b.Nack(worker)
				case 2:
					b.Tick()
				}
			}
		}
		for i, evals := range handed {
			if !slices.Equal(evals[:cap(evals)], were[i]) {
				t.Fatalf("%+v was changed to %+v", were[i], evals[:cap(evals)])
			}
		}
	}
}

// R4: what is handed in is not kept: who writes over it changes nothing for the broker.
func TestWhatIsHandedInIsNotKept(t *testing.T) {
	want := []api.Eval{eval(1, 50, 4), eval(2, 40, 4), eval(3, 30, 4)}
	spoil := func(evals []api.Eval) {
		for i := range evals[:cap(evals)] {
			evals[:cap(evals)][i] = eval(90+i, 1000+i, -i)
		}
	}
	evals := roomy(want)
	h := hand{t, broker.New()}
	h.Update(of(evals...))
	spoil(evals)
	h.items(3)
	h.inOrder(want...)
	h.gets(1, want[0])

	evals = roomy(want)
	h.Update(of(evals...))
	spoil(evals)
	h.items(3)
	h.has(1, want[0])
	h.gets(2, want[1])
	h.gets(3, want[2])
	h.getsNone(4)
}

// R4: what is answered is the caller's own: who writes over it changes nothing for the broker.
func TestAnswersAreTheCallersOwn(t *testing.T) {
	want := eval(1, 50, 4)
	h := ask(t, want)
	e, _ := h.Dequeue(1)
	e.Job, e.Priority = 2, 9
	h.has(1, want)
	e, _ = h.Held(1)
	e.Index, e.State = 2, evalDone
	h.has(1, want)
	h.nacks(1)
	h.inOrder(want)
}

// R4: nil and empty lists are one; of a store nothing counts but its Evals.
func TestTheEvalsAloneCount(t *testing.T) {
	e := eval(1, 50, 4)
	full := api.Store{
		Index:   99,
		Next:    7,
		Jobs:    []api.Job{{ID: 2, Type: api.JobService, Priority: 100, Version: 3}, {ID: 1, Stopped: true}},
		Stable:  []api.Job{{ID: 2}},
		Nodes:   []api.Node{{ID: 1, Up: true}},
		Allocs:  []api.Alloc{{ID: 1, Job: 2, State: api.AllocRunning}},
		Deploys: []api.Deploy{{Job: 2, State: api.DeployRunning, Index: 5}},
		Seen:    []api.Seen{{Client: 1, Req: 2}},
	}
	for _, none := range []api.Store{{}, {Evals: []api.Eval{}}, full} {
		h := hand{t, broker.New()}
		h.Update(none)
		h.items(0)
		h.getsNone(1)
		h.told(e)
		h.Update(none)
		h.items(0)
		h.getsNone(1)
		h.told(e)
		h.gets(1, e)
		h.Update(none)
		h.items(1)
		h.has(1, e)
	}
	full.Evals = []api.Eval{e}
	h := hand{t, broker.New()}
	h.Update(full)
	h.items(1)
	h.inOrder(e)
}

// answers are all that a broker tells in a run of calls by chance.
func answers(seed int64, b *broker.Broker, others ...*broker.Broker) []api.Eval {
	dice, otherDice := rand.New(rand.NewSource(seed)), rand.New(rand.NewSource(-1-seed))
	var out []api.Eval
	for range 300 {
		worker := dice.Intn(4) - 1
		switch call := dice.Intn(10); {
		case call < 2:
			b.Update(of(anyEvals(dice, 8, 6)...))
		case call < 5:
			e, _ := b.Dequeue(worker)
			out = append(out, e)
		case call < 6:
			out = append(out, api.Eval{Job: int(b.Ack(worker))})
		case call < 7:
			out = append(out, api.Eval{Job: int(b.Nack(worker))})
		default:
			b.Tick()
		}
		e, _ := b.Held(worker)
		out = append(out, e, api.Eval{Job: b.Len()})
		for _, other := range others {
			other.Update(of(anyEvals(otherDice, 8, 6)...))
			other.Dequeue(worker)
			other.Tick()
		}
	}
	return out
}

// R5: a broker that is told the same tells the same, whatever others are told between.
func TestToldTheSameTellsTheSame(t *testing.T) {
	for seed := range int64(200) {
		want := answers(seed, broker.New())
		if got := answers(seed, broker.New(), broker.New(), broker.New()); !slices.Equal(got, want) {
			t.Fatalf("seed %d: %+v, not %+v", seed, got, want)
		}
	}
}

// R1, R6: every call ends, at all numbers and in all states; those that have nothing tell so.
func TestAnyCallsAtAnyNumbers(t *testing.T) {
	dice := rand.New(rand.NewSource(16))
	far := farNumbers()
	pick := func() int { return far[dice.Intn(len(far))] }
	h := hand{t, broker.New()}
	for range 20000 {
		worker := pick()
		switch dice.Intn(8) {
		case 0:
			var evals []api.Eval
			for range dice.Intn(30) {
				evals = append(evals, api.Eval{Job: pick(), Priority: pick(), State: dice.Intn(5) - 1, Index: pick()})
			}
			h.Update(of(evals...))
		case 1, 2, 3:
			e, there := h.Dequeue(worker)
			if there != (e.State == evalPending) || !there && e != (api.Eval{}) {
				t.Fatalf("Dequeue(%d): %+v, %v", worker, e, there)
			}
		case 4:
			_, had := h.Held(worker)
			if e := h.Ack(worker); (e == ok) != had || e != ok && e != errEmpty {
				t.Fatalf("Ack(%d): %d; it had one: %v", worker, e, had)
			}
			h.hasNone(worker)
		case 5:
			_, had := h.Held(worker)
			if e := h.Nack(worker); (e == ok) != had || e != ok && e != errEmpty {
				t.Fatalf("Nack(%d): %d; it had one: %v", worker, e, had)
			}
			h.hasNone(worker)
		default:
			h.ticks(1)
		}
	}
}
