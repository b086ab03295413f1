package broker_test

import (
	"math/rand"
	"slices"
	"testing"

	"coxswain/api"
	"coxswain/broker"
)

// thing is an item as the chapter's words tell it.
type thing struct {
	eval   api.Eval
	count  int
	off    int
	had    bool
	worker int
	ticks  int
}

// model is the chapter, word by word: a list that is gone through for everything.
type model []thing

func (m model) job(job int) int {
	return slices.IndexFunc(m, func(x thing) bool { return x.eval.Job == job })
}

func (m model) held(worker int) int {
	return slices.IndexFunc(m, func(x thing) bool { return x.had && x.worker == worker })
}

func (m *model) update(evals []api.Eval) {
	for _, e := range evals {
		if e.State != evalPending {
			continue
		}
		if at := m.job(e.Job); at < 0 {
			*m = append(*m, thing{eval: e})
		} else if !(*m)[at].had {
			(*m)[at].eval = e
		}
	}
	var left model
	for _, x := range *m {
		asked := slices.ContainsFunc(evals, func(e api.Eval) bool { return e.State == evalPending && e.Job == x.eval.Job })
		if asked || x.had {
			left = append(left, x)
		}
	}
	*m = left
}

func (m model) dequeue(worker int) (api.Eval, bool) {
	if m.held(worker) >= 0 {
		return api.Eval{}, false
	}
	first := -1
	for at, x := range m {
		if !x.had && x.off == 0 && (first < 0 || ahead(x.eval, m[first].eval)) {
			first = at
		}
	}
	if first < 0 {
		return api.Eval{}, false
	}
	x := &m[first]
	x.had, x.worker, x.ticks = true, worker, 0
	x.count++
	return x.eval, true
}

func (m *model) ack(worker int) api.Errno {
	at := m.held(worker)
	if at < 0 {
		return errEmpty
	}
	*m = append(append(model{}, (*m)[:at]...), (*m)[at+1:]...)
	return ok
}

func (m model) nack(worker int) api.Errno {
	at := m.held(worker)
	if at < 0 {
		return errEmpty
	}
	x := &m[at]
	x.had = false
	if x.count == maxDeliver {
		x.off, x.count = tickDelay, 0
	}
	return ok
}

func (m model) tick() {
	for at := range m {
		if m[at].off > 0 {
			m[at].off--
		}
		if m[at].had {
			m[at].ticks++
		}
	}
	for _, x := range m {
		if x.had && x.ticks == tickNack {
			m.nack(x.worker)
		}
	}
}

// pair is a broker and the model, which are told the same.
type pair struct {
	*testing.T
	b       *broker.Broker
	m       model
	workers []int
	offs    int // how often an item was seen put off
	taken   int // how often a Tick took one from its worker
	gone    int // how often one stayed with its worker while its evaluation was there no more
}

// alike holds it that what every worker has, and how many there are, is as in the model.
func (p *pair) alike() {
	p.Helper()
	if p.b.Len() != len(p.m) {
		p.Fatalf("Len: %d, not %d", p.b.Len(), len(p.m))
	}
	for _, worker := range p.workers {
		var want api.Eval
		at := p.m.held(worker)
		if at >= 0 {
			want = p.m[at].eval
		}
		if e, there := p.b.Held(worker); e != want || there != (at >= 0) {
			p.Fatalf("Held(%d): %+v, %v; not %+v, %v", worker, e, there, want, at >= 0)
		}
	}
}

func (p *pair) update(evals []api.Eval) {
	p.b.Update(of(evals...))
	p.m.update(evals)
	for _, x := range p.m {
		if x.had && !slices.ContainsFunc(evals, func(e api.Eval) bool { return e.State == evalPending && e.Job == x.eval.Job }) {
			p.gone++
		}
	}
}

func (p *pair) dequeue(worker int) {
	p.Helper()
	e, there := p.b.Dequeue(worker)
	want, had := p.m.dequeue(worker)
	if e != want || there != had {
		p.Fatalf("Dequeue(%d): %+v, %v; not %+v, %v", worker, e, there, want, had)
	}
}

func (p *pair) ack(worker int) {
	p.Helper()
	if e, want := p.b.Ack(worker), p.m.ack(worker); e != want {
		p.Fatalf("Ack(%d): %d, not %d", worker, e, want)
	}
}

func (p *pair) nack(worker int) {
	p.Helper()
	if e, want := p.b.Nack(worker), p.m.nack(worker); e != want {
		p.Fatalf("Nack(%d): %d, not %d", worker, e, want)
	}
}

func (p *pair) tick() {
	for _, x := range p.m {
		if x.had && x.ticks == tickNack-1 {
			p.taken++
		}
		if x.off > 0 {
			p.offs++
		}
	}
	p.b.Tick()
	p.m.tick()
}

// anyEvals are up to so many, of jobs of which several may be the same, most of them pending.
func anyEvals(dice *rand.Rand, most, jobs int) []api.Eval {
	var out []api.Eval
	for range dice.Intn(most + 1) {
		e := eval(dice.Intn(jobs), dice.Intn(3), dice.Intn(4))
		switch dice.Intn(40) {
		case 0:
			far := farNumbers()
			e.Priority, e.Index = far[dice.Intn(len(far))], far[dice.Intn(len(far))]
		case 1:
			e.State = dice.Intn(6) - 1
		case 2, 3, 4, 5:
			e.State = evalBlocked + dice.Intn(2)
		}
		out = append(out, e)
	}
	return out
}

// habits are how often each of the calls comes in a run.
type habits struct{ update, dequeue, ack, nack, tick int }

// anyHabits are another run's.
func anyHabits(dice *rand.Rand) habits {
	return habits{1 + dice.Intn(3), 2 + dice.Intn(10), 1 + dice.Intn(3), 1 + dice.Intn(6), 1 + dice.Intn(12)}
}

// next is which of the calls comes: 0 to 4, as the fields stand.
func (h habits) next(dice *rand.Rand) int {
	often := []int{h.update, h.dequeue, h.ack, h.nack, h.tick}
	n := dice.Intn(h.update + h.dequeue + h.ack + h.nack + h.tick)
	for call, times := range often {
		if n < times {
			return call
		}
		n -= times
	}
	return -1
}

// anyWorkers are up to five of any numbers.
func anyWorkers(dice *rand.Rand) []int {
	all := append(farNumbers(), dice.Intn(1000)-500, dice.Int())
	dice.Shuffle(len(all), func(i, j int) { all[i], all[j] = all[j], all[i] })
	all = all[:1+dice.Intn(5)]
	slices.Sort(all)
	return slices.Compact(all)
}

// P15.1 to P15.4: long runs of any calls, held against the model behind each of them.
func TestRunsAgainstTheModel(t *testing.T) {
	offs, taken, gone := 0, 0, 0
	for seed := range int64(2000) {
		dice := rand.New(rand.NewSource(seed))
		p := &pair{T: t, b: broker.New(), workers: anyWorkers(dice)}
		often, most, jobs := anyHabits(dice), 1+dice.Intn(12), 1+dice.Intn(9)
		for range 1000 {
			worker := p.workers[dice.Intn(len(p.workers))]
			switch often.next(dice) {
			case 0:
				p.update(anyEvals(dice, most, jobs))
			case 1:
				p.dequeue(worker)
			case 2:
				p.ack(worker)
			case 3:
				p.nack(worker)
			default:
				p.tick()
			}
			p.alike()
			if t.Failed() {
				t.Fatalf("seed %d", seed)
			}
		}
		offs, taken, gone = offs+p.offs, taken+p.taken, gone+p.gone
	}
	if offs < 10000 || taken < 10000 || gone < 10000 {
		t.Errorf("the runs came to too little: %d put off, %d taken by a Tick, %d gone while a worker had them", offs, taken, gone)
	}
}

// P15.1 to P15.4: runs like those of a leader, whose evaluations change little by little, and stay put off and counted.
func TestSlowRunsAgainstTheModel(t *testing.T) {
	offs, taken := 0, 0
	for seed := range int64(800) {
		dice := rand.New(rand.NewSource(seed))
		p := &pair{T: t, b: broker.New(), workers: []int{0, 1}}
		evals := []api.Eval{eval(1, 50, 1), eval(2, 50, 1), eval(3, 70, 2), eval(4, 10, 3), eval(5, 50, 2), eval(6, 70, 2)}
		for at := range 1500 {
			if dice.Intn(12) == 0 {
				e := &evals[dice.Intn(len(evals))]
				e.State, e.Index = evalPending+dice.Intn(8)/5, at
			}
			p.update(evals)
			worker := dice.Intn(2)
			switch dice.Intn(12) {
			case 0:
				p.ack(worker)
			case 1, 2:
				p.nack(worker)
			case 3, 4:
				p.dequeue(worker)
			default:
				p.tick()
			}
			p.alike()
		}
		offs, taken = offs+p.offs, taken+p.taken
	}
	if offs < 5000 || taken < 5000 {
		t.Errorf("the runs came to too little: %d put off, %d taken by a Tick", offs, taken)
	}
}

// P15.2: many items are handed out in their order, each once.
func TestManyItems(t *testing.T) {
	dice := rand.New(rand.NewSource(15))
	var all []api.Eval
	for job := range 3000 {
		all = append(all, eval(job, dice.Intn(20), dice.Intn(20)))
	}
	dice.Shuffle(len(all), func(i, j int) { all[i], all[j] = all[j], all[i] })
	b := with(all...)
	slices.SortFunc(all, func(a, b api.Eval) int {
		if ahead(a, b) {
			return -1
		}
		return 1
	})
	for i, want := range all {
		if e, there := b.Dequeue(i); e != want || !there {
			t.Fatalf("Dequeue %d: %+v, %v; not %+v", i, e, there, want)
		}
	}
	hand{t, b}.getsNone(-1)
	hand{t, b}.items(len(all))
}
