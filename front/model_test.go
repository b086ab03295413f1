package front_test

import (
	"math/rand"
	"testing"

	"coxswain/api"
	"coxswain/front"
)

// model is the chapter, word by word: one list of all that wait, gone through one by one, and one of all that are done.
type model struct {
	waiting []waiter
	told    [2]int // the numbers of reads and of passes that were told last
	done    []front.Done
}

// The kinds of what is waited for.
const (
	forEntry = iota
	forRead
	forPass
)

type waiter struct {
	kind        int
	who         front.Who
	index, term int
	ctx         int
	ready       bool
}

func (m *model) count(kind int) int {
	count := 0
	for _, x := range m.waiting {
		if x.kind == kind {
			count++
		}
	}
	return count
}

// come lets one wait, under a number of its kind if it is no entry's.
func (m *model) come(x waiter) (int, api.Errno) {
	if m.count(x.kind) == 64 {
		return 0, errFull
	}
	if x.kind != forEntry {
		m.told[x.kind-1]++
		x.ctx = m.told[x.kind-1]
	}
	m.waiting = append(m.waiting, x)
	return x.ctx, ok
}

// leave has those wait no more of whom this is told; end is what they are done with, if they are.
func (m *model) leave(goes func(x waiter) bool, end func(x waiter) (front.Done, bool)) {
	var stay []waiter
	for _, x := range m.waiting {
		if !goes(x) {
			stay = append(stay, x)
			continue
		}
		if d, done := end(x); done && len(m.done) < 256 {
			m.done = append(m.done, d)
		}
	}
	m.waiting = stay
}

func (m *model) applied(e api.Entry, r api.Result) {
	m.leave(
		func(x waiter) bool { return x.kind == forEntry && x.index == e.Index },
		func(x waiter) (front.Done, bool) {
			return front.Done{Who: x.who, Index: e.Index, Result: r}, x.term == e.Term
		},
	)
}

func (m *model) forget(goes func(x waiter) bool) {
	m.leave(goes, func(waiter) (front.Done, bool) { return front.Done{}, false })
}

func (m *model) ready(ctx, index int) {
	for i := range m.waiting {
		if x := &m.waiting[i]; x.kind == forRead && x.ctx == ctx {
			x.ready, x.index = true, index
		}
	}
}

func (m *model) reads(s api.Store) {
	var left []api.Alloc
	for _, a := range s.Allocs {
		switch a.State {
		case allocDone, allocFailed, allocEnded, allocLost:
		default:
			left = append(left, a)
		}
	}
	m.leave(
		func(x waiter) bool { return x.kind == forRead && x.ready && s.Index >= x.index },
		func(x waiter) (front.Done, bool) {
			return front.Done{Who: x.who, Index: s.Index, Result: api.Result{Allocs: left}}, true
		},
	)
}

func (m *model) passed(ctx int, r api.Result) {
	m.leave(
		func(x waiter) bool { return x.kind == forPass && x.ctx == ctx },
		func(x waiter) (front.Done, bool) { return front.Done{Who: x.who, Result: r}, true },
	)
}

func (m *model) take() (front.Done, bool) {
	if len(m.done) == 0 {
		return front.Done{}, false
	}
	d := m.done[0]
	m.done = m.done[1:]
	return d, true
}

// walk is a run of any calls; its weights tell which of them come often.
type walk struct {
	hand
	m       *model
	dice    *rand.Rand
	weights []int
	wide    int // the greater, the less often calls meet
	next    int
	full    [3]int
	done    int
	lost    int
}

// anyWalk is one in which some calls come much more often than others, so that some runs come to each limit.
func anyWalk(t *testing.T, seed int64) *walk {
	dice := rand.New(rand.NewSource(seed))
	w := &walk{hand: fresh(t), m: &model{}, dice: dice, wide: []int{2, 6, 20, 90}[dice.Intn(4)]}
	for range 10 {
		w.weights = append(w.weights, []int{1, 3, 10, 30}[dice.Intn(4)])
	}
	w.weights[9] = 1
	return w
}

// pick is one of the calls, by their weights.
func (w *walk) pick() int {
	all := 0
	for _, x := range w.weights {
		all += x
	}
	at := w.dice.Intn(all)
	for call, x := range w.weights {
		if at -= x; at < 0 {
			return call
		}
	}
	return -1
}

// number is one of a read or of a pass: often one that was told, now and then one that was not.
func (w *walk) number(kind int) int {
	return w.m.told[kind-1] + 2 - w.dice.Intn(3*w.wide+4)
}

// comes has somebody wait, and holds what is answered against the model.
func (w *walk) comes(kind int) {
	w.Helper()
	x := waiter{kind: kind, who: who(w.next)}
	w.next++
	var ctx int
	var e api.Errno
	switch kind {
	case forEntry:
		x.index, x.term = w.dice.Intn(w.wide), w.dice.Intn(3)
		e = w.Wait(x.index, x.term, x.who)
	case forRead:
		ctx, e = w.Read(x.who)
	case forPass:
		ctx, e = w.Pass(x.who)
	}
	wantCtx, want := w.m.come(x)
	if ctx != wantCtx || e != want {
		w.Fatalf("the kind %d: %d, %v, not %d, %v", kind, ctx, e, wantCtx, want)
	}
	if e == errFull {
		w.full[kind]++
	}
}

// takesOne holds one Take against the model.
func (w *walk) takesOne() {
	w.Helper()
	d, ok := w.Take()
	want, wantOk := w.m.take()
	if ok != wantOk || !alike(d, want) {
		w.Fatalf("Take: %+v, %v, not %+v, %v", d, ok, want, wantOk)
	}
	if ok {
		w.done++
	}
}

func (w *walk) anyStore() api.Store {
	s := api.Store{Index: w.dice.Intn(w.wide)}
	for id := range w.dice.Intn(6) {
		s.Allocs = append(s.Allocs, alloc(id, []int{allocNew, allocRunning, allocDone, allocFailed, allocEnded, allocLost}[w.dice.Intn(6)]))
	}
	return s
}

// step is one call, told to both.
func (w *walk) step() {
	w.Helper()
	before := len(w.m.done)
	switch call := w.pick(); call {
	case 0, 1, 2:
		w.comes(call)
	case 3:
		e, r := entry(w.dice.Intn(w.wide), w.dice.Intn(3)), result(w.dice.Intn(1000))
		w.Applied(e, r)
		w.m.applied(e, r)
	case 4:
		ctx := w.number(forRead)
		w.Unread(ctx)
		w.m.forget(func(x waiter) bool { return x.kind == forRead && x.ctx == ctx })
	case 5:
		ctx, index := w.number(forRead), w.dice.Intn(w.wide)
		w.Ready(ctx, index)
		w.m.ready(ctx, index)
	case 6:
		s := w.anyStore()
		w.Reads(s)
		w.m.reads(s)
	case 7:
		ctx, r := w.number(forPass), result(w.dice.Intn(1000))
		w.Passed(ctx, r)
		w.m.passed(ctx, r)
	case 8:
		w.takesOne()
	case 9:
		w.Drop()
		w.m.forget(func(x waiter) bool { return x.kind == forRead })
	}
	if len(w.m.done) == maxDone && before == maxDone {
		w.lost++
	}
	if w.Len() != len(w.m.waiting) || w.Full() != (w.m.count(forEntry) == maxWait) {
		w.Fatalf("Len: %d, Full: %v, where %d wait, %d of them for entries", w.Len(), w.Full(), len(w.m.waiting), w.m.count(forEntry))
	}
}

// P18.1 to P18.5: long runs of any calls, against the chapter's words.
func TestRunsAgainstTheModel(t *testing.T) {
	var full [3]int
	done, lost := 0, 0
	for seed := range int64(120) {
		w := anyWalk(t, seed)
		for range 2000 {
			w.step()
		}
		for len(w.m.done) > 0 {
			w.takesOne()
		}
		w.takesOne()
		for kind := range full {
			full[kind] += w.full[kind]
		}
		done += w.done
		lost += w.lost
	}
	if full[forEntry] < 500 || full[forRead] < 500 || full[forPass] < 500 || done < 5000 || lost < 100 {
		t.Errorf("the runs came to too little: %v refused, %d done, %d calls with as many done as are kept", full, done, lost)
	}
}

// wish is what somebody waits for: an entry of an index and a term, or a number.
type wish struct {
	kind, index, term int
	ctx               int
}

// P18.5: told without the model: everybody comes once; nobody is done twice, and only with what was told of what they waited for, when they waited for it.
func TestNobodyIsDoneTwice(t *testing.T) {
	done := 0
	for seed := range int64(60) {
		dice := rand.New(rand.NewSource(500 + seed))
		h := fresh(t)
		wishes := map[int]wish{} // who waits, by Req
		fits := map[int][]front.Done{}
		told := func(d front.Done, is func(x wish) bool) {
			for n, x := range wishes {
				if is(x) {
					d.Who = who(n)
					fits[n] = append(fits[n], d)
				}
			}
		}
		for n := 1; n < 1500; n++ {
			index, term, ctx := dice.Intn(20), dice.Intn(2), 1+dice.Intn(1+n/6)
			switch dice.Intn(9) {
			case 0:
				if h.Wait(index, term, who(n)) == ok {
					wishes[n] = wish{kind: forEntry, index: index, term: term}
				}
			case 1:
				if ctx, e := h.Read(who(n)); e == ok {
					wishes[n] = wish{kind: forRead, ctx: ctx}
				}
			case 2:
				if ctx, e := h.Pass(who(n)); e == ok {
					wishes[n] = wish{kind: forPass, ctx: ctx}
				}
			case 3:
				h.Applied(entry(index, term), result(n))
				told(front.Done{Index: index, Result: result(n)}, func(x wish) bool { return x.kind == forEntry && x.index == index && x.term == term })
			case 4:
				h.Passed(ctx, result(n))
				told(front.Done{Result: result(n)}, func(x wish) bool { return x.kind == forPass && x.ctx == ctx })
			case 5, 6:
				h.Ready(ctx, index)
			case 7:
				h.Reads(storeAt(index))
				told(front.Done{Index: index, Result: sees(1, index).Result}, func(x wish) bool { return x.kind == forRead })
			case 8:
				d, some := h.Take()
				if !some {
					continue
				}
				good := false
				for _, x := range fits[d.Who.Req] {
					good = good || alike(d, x)
				}
				if _, waits := wishes[d.Who.Req]; !waits || !good {
					t.Fatalf("seed %d: %+v is done, who waits for %+v, and was told %+v", seed, d, wishes[d.Who.Req], fits[d.Who.Req])
				}
				delete(wishes, d.Who.Req)
				done++
			}
		}
	}
	if done < 1000 {
		t.Errorf("the runs came to too little: %d are done", done)
	}
}
