package raft_test

import (
	"fmt"
	"math"
	"math/rand"
	"reflect"
	"slices"
	"testing"

	"coxswain/api"
	"coxswain/conf"
	"coxswain/raft"
)

// walk is a server and its model, which are asked the same.
type walk struct {
	t     *testing.T
	dice  *rand.Rand
	r     *raft.Raft
	is    *model
	wild  bool // servers that may not be come, too
	kinds []int
	seen  map[string]int
	calls []string
}

func (w *walk) pick(list ...int) int { return list[w.dice.Intn(len(list))] }

func (w *walk) chance(percent int) bool { return w.dice.Intn(100) < percent }

// far is now and then a number from far away.
func (w *walk) far(n int) int {
	if w.chance(1) {
		return w.pick(append(farNumbers(), 0)...)
	}
	return n
}

func (w *walk) draw() int {
	return w.pick(0, 0, 1, 5, 9, 10, 99, -1, -2, -10, math.MinInt, math.MaxInt)
}

// servers are any that may be, or, in a wild walk, may not.
func (w *walk) servers() api.Conf {
	if w.wild && w.chance(30) {
		return []api.Conf{{}, voters(1, 1), voters(1, 1, 2), voters(3, 2, 1, 2), voters(1, 7), voters(-1, 0, 1), servers(nil, []int{1, 2}), servers([]int{1, 2}, []int{2, 9}), voters(math.MinInt, 1, math.MaxInt)}[w.dice.Intn(9)]
	}
	var c api.Conf
	for s := 1; s <= 5; s++ {
		switch w.dice.Intn(5) {
		case 0, 1:
			c.Voters = append(c.Voters, s)
		case 2:
			c.Learners = append(c.Learners, s)
		}
	}
	if len(c.Voters) == 0 {
		return voters(1)
	}
	return c
}

// changed are servers that are one change away.
func (w *walk) changed() api.Conf {
	c := w.is.servers()
	s := 1 + w.dice.Intn(5)
	var d api.Conf
	e := api.ErrServers
	switch w.dice.Intn(4) {
	case 0:
		d, e = conf.Add(c, s)
	case 1:
		d, e = conf.Promote(c, s)
	case 2:
		d, e = conf.Remove(c, s)
	}
	if e != api.OK {
		return w.servers()
	}
	return d
}

func (w *walk) index() int {
	last, _ := w.is.last()
	at := w.pick(0, w.is.commit, w.is.commit, last, last, w.is.snapshot.Index, w.dice.Intn(last%1000+2))
	return w.far(at + w.pick(0, 0, 0, 0, 1, 2, -1, -2))
}

func (w *walk) command() api.Cmd {
	switch {
	case w.chance(25):
		return toConf(w.changed())
	case w.chance(10):
		return api.Cmd{Op: api.CmdNop}
	}
	c := command(w.dice.Intn(1000))
	c.Op = w.pick(api.CmdSubmit, api.CmdPlan, api.CmdBeat, 0, 99)
	return c
}

// entriesBehind are ones of the log, others of terms up to one, or both.
func (w *walk) entriesBehind(index, term, most int) []api.Entry {
	var out []api.Entry
	for i := range w.pick(0, 0, 1, 2, 3, 9) {
		at := index + 1 + i
		if had := w.is.between(at, at); len(had) == 1 && had[0].Term >= term && w.chance(90) {
			out = append(out, plain(had[0]).(api.Entry))
			term = had[0].Term
			continue
		}
		if term < most && w.chance(30) {
			term = min(most, term+1+w.dice.Intn(2))
		}
		x := api.Entry{Index: at, Term: w.far(term), Cmd: w.command()}
		if w.chance(1) {
			x.Index++
		}
		out = append(out, x)
	}
	return out
}

func (w *walk) message() api.Msg {
	m := api.Msg{Kind: w.pick(w.kinds...), From: 1 + w.dice.Intn(5), To: w.is.id, Term: w.is.term}
	switch {
	case w.chance(2):
		m.Term += 1 + w.dice.Intn(2)
	case w.chance(3):
		m.Term -= 1 + w.dice.Intn(2)
	}
	m.Term = w.far(max(m.Term, 1))
	if w.is.role == raft.Candidate && w.chance(30) {
		m.Kind = api.MsgVoted
	}
	m.Index = w.index()
	m.LogTerm = w.is.termAt(m.Index)
	if m.LogTerm < 0 || w.chance(15) {
		m.LogTerm = w.far(w.dice.Intn(int(min(max(m.Term, 1), 9)) + 1))
	}
	m.Reject = w.chance(25)
	m.Ctx = w.far(w.dice.Intn(w.is.round + 2))
	m.Commit = w.index()
	if w.chance(1) {
		m.From, m.To, m.Kind = w.far(w.dice.Intn(7)), w.far(w.dice.Intn(7)), w.far(w.dice.Intn(12))
	}
	switch m.Kind {
	case api.MsgAppend:
		m.Entries = w.entriesBehind(m.Index, m.LogTerm, m.Term)
	case api.MsgSnap:
		w.piece(&m)
	case api.MsgSnapped:
		m.Total = w.pick(0, 0, 1, len(w.is.snapshot.Data))
		m.Offset = w.far(w.dice.Intn(len(w.is.snapshot.Data) + 2))
		if w.chance(60) {
			m.Index = w.is.snapshot.Index
		}
	}
	return m
}

// piece goes on with the last one, mostly.
func (w *walk) piece(m *api.Msg) {
	m.Conf = w.servers()
	m.Total = w.pick(1, 2, 3, 5, 300)
	if w.chance(70) && w.is.key[4] > 0 && w.is.key[4] <= 300 {
		m.From, m.Index, m.LogTerm, m.Total = w.is.key[1], w.is.key[2], w.is.key[3], w.is.key[4]
		m.Offset = len(w.is.bytes)
	}
	if w.chance(10) {
		m.Offset = w.far(w.dice.Intn(4))
	}
	if w.chance(3) {
		m.Total = w.pick(0, -1, maxData+1, math.MinInt, math.MaxInt)
	}
	left := min(max(m.Total-m.Offset, 0), 300)
	m.Data = bytesOf(w.pick(0, 1, left, left, left+1))
}

// followersKinds and leadersKinds are those that are sent to whom follows, or leads, mostly.
func followersKinds() []int {
	return []int{api.MsgVote, api.MsgVoted, api.MsgAppend, api.MsgAppend, api.MsgAppend, api.MsgAppended, api.MsgSnap, api.MsgSnap, api.MsgSnapped}
}

func leadersKinds() []int {
	return []int{api.MsgVote, api.MsgVoted, api.MsgVoted, api.MsgVoted, api.MsgVoted, api.MsgAppend, api.MsgAppended, api.MsgAppended, api.MsgAppended, api.MsgAppended, api.MsgAppended, api.MsgAppended, api.MsgAppended, api.MsgAppended, api.MsgSnapped, api.MsgSnapped, api.MsgSnapped}
}

// call asks both, and holds what each answers, and how each stands then.
func (w *walk) call() {
	switch n := w.dice.Intn(100); {
	case n < 25:
		// Now and then so many that a wait comes to its end.
		for range w.pick(1, 1, 1, 1, 2, 12) {
			draw := w.draw()
			w.said("Tick(%d)", draw)
			w.same(w.r.Tick(draw), w.is.tick(draw))
		}
	case n < 75:
		m := w.message()
		w.said("Step(%s)", shortMsg(m))
		handed := roomy(m)
		out := w.r.Step(handed)
		w.unchanged(handed, m, out)
		w.same(out, w.is.step(m))
	case n < 85:
		w.propose(w.command())
	case n < 91:
		ctx := w.far(1 + w.dice.Intn(9))
		w.said("Read(%d)", ctx)
		e, out := w.r.Read(ctx)
		f, wanted := w.is.read(ctx)
		w.errno(e, f)
		w.same(out, wanted)
	case n < 99:
		w.compact(w.index(), bytesOf(w.pick(0, 1, 5, 255, 256, 257, 600)))
	default:
		w.reopen()
	}
	if got, wanted := w.r.Status(), w.is.status(); !alike(got, wanted) {
		w.fail("Status: %+v\n  not %+v", got, wanted)
	} else {
		spoil(&got)
	}
	w.seen[fmt.Sprint("role ", w.is.role)]++
}

func (w *walk) propose(c api.Cmd) {
	w.said("Propose(op %d, %v)", c.Op, c.Conf)
	handed := roomy(c)
	x, e, out := w.r.Propose(handed)
	w.unchanged(handed, c, out, &x)
	y, f, wanted := w.is.propose(c)
	w.errno(e, f)
	if !alike(x, y) {
		w.fail("Propose: %v; not %v", x, y)
	}
	spoil(&x)
	w.same(out, wanted)
}

func (w *walk) compact(index int, data []byte) {
	w.said("Compact(%d, %d bytes)", index, len(data))
	handed := roomy(data)
	e, out := w.r.Compact(index, handed)
	w.unchanged(handed, data, out)
	f, wanted := w.is.compact(index, data)
	w.errno(e, f)
	w.same(out, wanted)
}

// reopen opens a server with what it has.
func (w *walk) reopen() {
	s := plain(api.Saved{Hard: api.Hard{Term: w.is.term, Vote: w.is.vote}, Snapshot: w.is.snapshot, Entries: w.is.list}).(api.Saved)
	c := w.is.first
	w.said("New(%d, %v, ..)", w.is.id, c)
	handed, first := roomy(s), roomy(c)
	r := raft.New(w.is.id, first, handed)
	// Entries of the term 0, and servers that may not be, may come from elsewhere; a log can't begin with one.
	if may := s.Snapshot.Index == 0 || s.Snapshot.Term > 0 && conf.May(s.Snapshot.Conf); may != (r != nil) {
		w.fail("New: %v, %d (%d), %s", s.Hard, s.Snapshot.Index, s.Snapshot.Term, shortList(s.Entries))
	}
	if r == nil {
		return
	}
	w.r = r
	w.unchanged(handed, s, raft.Out{})
	w.unchanged(first, c, raft.Out{})
	w.is = newModel(w.is.id, c, s)
}

func (w *walk) said(form string, args ...any) {
	w.calls = append(w.calls, fmt.Sprintf(form, args...))
	w.calls = w.calls[max(0, len(w.calls)-12):]
}

func (w *walk) fail(form string, args ...any) {
	w.t.Helper()
	for _, call := range w.calls {
		w.t.Log(call)
	}
	w.t.Fatalf(form, args...)
}

func (w *walk) errno(got, wanted api.Errno) {
	w.t.Helper()
	if got != wanted {
		w.fail("error %d; not %d", got, wanted)
	}
	w.seen[fmt.Sprint("error ", int(got))]++
}

// same holds an answer; then it is spoilt, which must not be seen later.
func (w *walk) same(got, wanted raft.Out) {
	w.t.Helper()
	if !alike(got, wanted) {
		w.fail("%s\n  not %s", short(got), short(wanted))
	}
	for _, m := range got.Msgs {
		w.seen[fmt.Sprint("kind ", m.Kind)]++
	}
	w.count("commits", len(got.Commits) > 0)
	w.count("reads", len(got.Reads) > 0)
	w.count("snapshot", got.Snapshot != nil)
	w.count("entries", len(got.Entries) > 0)
	spoil(&got)
}

func (w *walk) count(what string, is bool) {
	if is {
		w.seen[what]++
	}
}

// unchanged asks that what was handed in is as it was, its spare room too, and shares no memory with what was answered; then it is spoilt.
func (w *walk) unchanged(handed, was any, out raft.Out, more ...any) {
	w.t.Helper()
	if !reflect.DeepEqual(unroomy(handed), unroomy(roomyAny(was))) {
		w.fail("what was handed in was changed")
	}
	p := reflect.New(reflect.TypeOf(handed))
	p.Elem().Set(reflect.ValueOf(handed))
	apart(w.t, w.calls[len(w.calls)-1], append([]any{p.Interface(), &out}, more...)...)
	spoil(p.Interface())
}

// All promises of calls, R1, R4: any calls, of any arguments, one behind the other, are answered as the words say.
func TestWalks(t *testing.T) {
	for _, wild := range []bool{false, true} {
		seen := map[string]int{}
		for seed := range int64(80) {
			dice := rand.New(rand.NewSource(seed))
			w := &walk{t: t, dice: dice, seen: seen, kinds: followersKinds()}
			first := w.servers()
			w.is = newModel(1+dice.Intn(5), first, api.Saved{})
			if seed%3 > 0 {
				w.kinds = leadersKinds()
				w.is.id = first.Voters[0]
			}
			w.wild = wild
			if seed%4 == 0 {
				w.is = newModel(w.is.id, first, api.Saved{Hard: api.Hard{Term: most - 3}, Snapshot: api.Snapshot{Index: most - 12, Term: most - 3, Conf: voters(w.is.id), Data: []byte("s")}})
			}
			w.reopen()
			for range 600 {
				w.call()
			}
		}
		for _, what := range []string{"role 0", "role 1", "role 2", "kind 1", "kind 2", "kind 3", "kind 4", "kind 5", "kind 6", "commits", "reads", "snapshot", "entries", "error 0", "error 1", "error 2", "error 3", "error 20", "error 21", "error 22"} {
			if seen[what] < 3 {
				t.Errorf("of %s there were only %d (wild: %v)", what, seen[what], wild)
			}
		}
	}
}

// R5: the same calls are answered the same.
func TestTheSameAgain(t *testing.T) {
	var ran [2][]string
	for i := range ran {
		dice := rand.New(rand.NewSource(9))
		w := &walk{t: t, dice: dice, seen: map[string]int{}, kinds: leadersKinds(), is: newModel(1, voters(1, 2), api.Saved{})}
		w.reopen()
		for range 500 {
			w.call()
			ran[i] = append(ran[i], w.calls[len(w.calls)-1], fmt.Sprintf("%+v", w.r.Status()))
		}
	}
	if !slices.Equal(ran[0], ran[1]) {
		t.Error("two runs of the same calls differ")
	}
}
