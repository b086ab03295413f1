package raftlog_test

import (
	"math/rand"
	"testing"

	"coxswain/api"
	"coxswain/raftlog"
)

// model does what the chapter's words say, of a map from indexes to terms and marks; it is slow.
type model struct {
	index, term int
	last        int
	at          map[int]api.Entry
}

func newModel(index, term int) *model {
	return &model{index: index, term: term, last: index, at: map[int]api.Entry{}}
}

func (m *model) termAt(i int) (int, api.Errno) {
	if i == m.index {
		return m.term, api.OK
	}
	if x, ok := m.at[i]; ok {
		return x.Term, api.OK
	}
	if i < m.index {
		return 0, api.ErrGone
	}
	return 0, api.ErrEmpty
}

func (m *model) lastTerm() int {
	term, _ := m.termAt(m.last)
	return term
}

func (m *model) slice(from, count int) []api.Entry {
	var out []api.Entry
	for i := from; len(out) < count; i++ {
		x, ok := m.at[i]
		if !ok {
			break
		}
		out = append(out, x)
	}
	return out
}

func (m *model) accept(index, term int, list []api.Entry) (int, bool) {
	ahead := term
	for i, x := range list {
		if x.Index != index+i+1 || x.Term < ahead || x.Index > most || x.Term > most {
			return 0, false
		}
		ahead = x.Term
	}
	if got, e := m.termAt(index); e != api.OK || got != term {
		return 0, false
	}
	first := 0
	for _, x := range list {
		if got, e := m.termAt(x.Index); first == 0 && (e != api.OK || got != x.Term) {
			first = x.Index
			for i := first; i <= m.last; i++ {
				delete(m.at, i)
			}
		}
		if first > 0 {
			m.at[x.Index] = x
			m.last = x.Index
		}
	}
	return first, true
}

func (m *model) put(term int, c api.Cmd) (api.Entry, api.Errno) {
	if term < m.lastTerm() || term < 1 || term > most {
		return api.Entry{}, api.ErrArg
	}
	if m.last == most {
		return api.Entry{}, api.ErrFull
	}
	m.last++
	m.at[m.last] = api.Entry{Index: m.last, Term: term, Cmd: c}
	return m.at[m.last], api.OK
}

func (m *model) newer(index, term int) bool {
	if term == m.lastTerm() {
		return index >= m.last
	}
	return term > m.lastTerm()
}

func (m *model) compact(i int) api.Errno {
	if i > m.last {
		return api.ErrEmpty
	}
	if i <= m.index {
		return api.OK
	}
	m.term = m.at[i].Term
	for ; m.index < i; m.index++ {
		delete(m.at, m.index+1)
	}
	return api.OK
}

// walk is a log and its model, which are asked the same.
type walk struct {
	t    *testing.T
	dice *rand.Rand
	log  *raftlog.Log
	is   *model
	mark int
}

// near is an index at or about those of the log, seldom one far away.
func (w *walk) near() int {
	if w.dice.Intn(20) == 0 {
		return farNumbers()[w.dice.Intn(10)]
	}
	return w.is.index - 2 + w.dice.Intn(w.is.last-w.is.index+5)
}

// aTerm is one at or about those of the log's end, seldom one far away.
func (w *walk) aTerm() int {
	if w.dice.Intn(20) == 0 {
		return farNumbers()[w.dice.Intn(10)]
	}
	return w.is.lastTerm() - 2 + w.dice.Intn(5)
}

func (w *walk) cmd() api.Cmd {
	w.mark++
	return command(w.mark)
}

// some are entries behind an index: often what the log has there, for a while, then others; seldom with a fault.
func (w *walk) some(index, term int) []api.Entry {
	var out []api.Entry
	there := w.dice.Intn(6)
	for i := range w.dice.Intn(8) {
		if x, ok := w.is.at[index+1+i]; ok && i < there {
			term = x.Term
		} else if w.dice.Intn(3) == 0 {
			term += w.dice.Intn(3)
		}
		out = append(out, api.Entry{Index: index + 1 + i, Term: term, Cmd: w.cmd()})
	}
	if len(out) > 0 && w.dice.Intn(8) == 0 {
		out[w.dice.Intn(len(out))].Index += 1 - 2*w.dice.Intn(2)
	}
	if len(out) > 0 && w.dice.Intn(8) == 0 {
		out[w.dice.Intn(len(out))].Term = w.aTerm()
	}
	return out
}

func (w *walk) accept() {
	index := w.near()
	term, _ := w.is.termAt(index)
	if w.dice.Intn(6) == 0 {
		term = w.aTerm()
	}
	list := w.some(index, term)
	at, ok := w.is.accept(index, term, list)
	accept(w.t, w.log, index, term, list, at, ok)
}

func (w *walk) put() {
	term, c := w.aTerm(), w.cmd()
	want, e := w.is.put(term, c)
	if got, f := w.log.Put(term, c); f != e || !alike(got, want) {
		w.t.Errorf("Put(%d): %v, %d; not %v, %d", term, got, f, want, e)
	}
}

func (w *walk) compact() {
	i := w.near()
	compact(w.t, w.log, i, w.is.compact(i))
}

func (w *walk) ask() {
	i, n := w.near(), w.dice.Intn(6)-1
	slice(w.t, w.log, i, n, w.is.slice(i, n))
	term, e := w.is.termAt(i)
	termOf(w.t, w.log, i, term, e)
	term = w.aTerm()
	newer(w.t, w.log, i, term, w.is.newer(i, term))
}

func (w *walk) step() {
	switch w.dice.Intn(8) {
	case 0, 1, 2:
		w.accept()
	case 3, 4:
		w.put()
	case 5:
		w.compact()
	default:
		w.ask()
	}
	base(w.t, w.log, w.is.index, w.is.term)
	last(w.t, w.log, w.is.last, w.is.lastTerm())
	slice(w.t, w.log, w.is.index+1, 1<<20, w.is.slice(w.is.index+1, 1<<20))
}

// P8.1 to P8.5: any calls, one behind the other, are answered as the chapter's words say.
func TestAnyCallsBehindEachOther(t *testing.T) {
	for seed := range 400 {
		dice := rand.New(rand.NewSource(int64(seed)))
		begin := [][2]int{{0, 0}, {1, 1}, {9, 4}, {most - 3, 5}, {most - 20, most - 2}}[dice.Intn(5)]
		w := &walk{t: t, dice: dice, log: raftlog.New(begin[0], begin[1]), is: newModel(begin[0], begin[1])}
		for range 120 {
			w.step()
		}
		if t.Failed() {
			t.Fatalf("seed %d", seed)
		}
	}
}

// R5: two logs that were told the same answer the same.
func TestTheSameAgain(t *testing.T) {
	var first []string
	for round := range 2 {
		dice := rand.New(rand.NewSource(8))
		w := &walk{t: t, dice: dice, log: raftlog.New(0, 0), is: newModel(0, 0)}
		for i := range 300 {
			w.step()
			index, _ := w.log.Base()
			now := short(w.log.Slice(index+1, 1<<20))
			if round == 0 {
				first = append(first, now)
			} else if first[i] != now {
				t.Fatalf("step %d: %s; ahead of that %s", i, now, first[i])
			}
		}
	}
}
