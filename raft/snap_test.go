package raft_test

import (
	"fmt"
	"math"
	"testing"

	"coxswain/api"
	"coxswain/raft"
)

// behind is a leader of the Term 3, of voters 1 to 3 and learner 4, whose log 22 is behind a snapshot of 21 with so many bytes, of which the members 2 and 4 have nothing.
func behind(t *testing.T, size int) *raft.Raft {
	t.Helper()
	r := long(t)
	answers(r, 3, 21, false)
	proposed(t, r, command(1))
	compacted(t, r, 21, bytesOf(size))
	return r
}

// piece is a piece of its snapshot.
func piece(to, offset, size int) api.Msg {
	return api.Msg{
		Kind: api.MsgSnap, From: 1, To: to, Term: 3, Index: 21, LogTerm: 3, Conf: servers([]int{1, 2, 3}, []int{4}),
		Offset: offset, Total: size, Data: bytesOf(size)[offset:min(size, offset+api.MaxChunk)],
	}
}

func snapped(r *raft.Raft, m api.Msg) raft.Out {
	m.Kind = api.MsgSnapped
	return r.Step(to(r, m))
}

// P9.4: who lacks what is below the base is sent the snapshot, in pieces of at most MaxChunk bytes, as far as it is known to have it.
func TestPieces(t *testing.T) {
	for _, size := range []int{1, api.MaxChunk - 1, api.MaxChunk, api.MaxChunk + 1, 2 * api.MaxChunk, 700} {
		r := behind(t, size)
		want(t, "the first piece", answers(r, 2, 20, true), raft.Out{Msgs: []api.Msg{piece(2, 0, size)}})
		for _, offset := range []int{0, 1, size - 1, size, 0} {
			want(t, fmt.Sprintf("a piece from %d of %d", offset, size), snapped(r, api.Msg{From: 2, Index: 21, Offset: offset, Total: size}), raft.Out{Msgs: []api.Msg{piece(2, offset, size)}})
		}
	}
}

// P9.4: next at the base is not above it; one more is.
func TestAtTheBase(t *testing.T) {
	r := behind(t, 9)
	want(t, "next at the base", answers(r, 2, 20, true), raft.Out{Msgs: []api.Msg{piece(2, 0, 9)}})
	r = behind(t, 9)
	answers(r, 2, 0, true)
	want(t, "next above the base", answers(r, 2, 21, false), raft.Out{Msgs: []api.Msg{{Kind: api.MsgAppend, From: 1, To: 2, Term: 3, Index: 21, LogTerm: 3, Commit: 21, Entries: []api.Entry{{Index: 22, Term: 3, Cmd: command(1)}}}}})
}

// P9.4: beats and reads send pieces too, and these have no Ctx.
func TestPiecesWithBeats(t *testing.T) {
	r := behind(t, 600)
	answers(r, 2, 0, true)
	snapped(r, api.Msg{From: 2, Index: 21, Offset: 256, Total: 600})
	e, o := r.Read(5)
	if e != api.OK || len(o.Msgs) != 3 || !alike(o.Msgs[0], piece(2, 256, 600)) || o.Msgs[1].Ctx != 1 || o.Msgs[1].To != 3 {
		t.Fatalf("Read: %d, %s", e, short(o))
	}
	r.Tick(0)
	o = r.Tick(0)
	if len(o.Msgs) != 3 || !alike(o.Msgs[0], piece(2, 256, 600)) || o.Msgs[1].Kind != api.MsgAppend {
		t.Fatalf("a beat: %s", short(o))
	}
}

// P9.5 MsgSnapped: how much it has: at least 0, at most all; whatever Total is but 0, and with Reject.
func TestSnappedInPart(t *testing.T) {
	r := behind(t, 600)
	answers(r, 2, 0, true)
	for _, x := range []struct{ told, offset int }{{256, 256}, {-1, 0}, {512, 512}, {math.MinInt, 0}, {600, 600}, {601, 600}, {math.MaxInt, 600}, {7, 7}, {0, 0}} {
		for _, total := range []int{600, 1, -1, 601, math.MinInt, math.MaxInt} {
			want(t, fmt.Sprintf("%d of %d", x.told, total), snapped(r, api.Msg{From: 2, Index: 21, Offset: x.told, Total: total}), raft.Out{Msgs: []api.Msg{piece(2, x.offset, 600)}})
		}
		want(t, fmt.Sprintf("%d, rejecting", x.told), snapped(r, api.Msg{From: 2, Index: 21, Offset: x.told, Reject: true}), raft.Out{Msgs: []api.Msg{piece(2, x.offset, 600)}})
	}
	for _, index := range append(farNumbers(), 0, 20, 22) {
		want(t, fmt.Sprintf("of another snapshot: %d", index), snapped(r, api.Msg{From: 2, Index: index, Offset: 5, Total: 600}), raft.Out{})
		want(t, fmt.Sprintf("of another snapshot, rejecting: %d", index), snapped(r, api.Msg{From: 2, Index: index, Offset: 5, Reject: true}), raft.Out{})
	}
	want(t, "a stranger's", snapped(r, api.Msg{From: 5, Index: 21, Offset: 5, Total: 600}), raft.Out{})
	want(t, "a stranger's", snapped(r, api.Msg{From: 5, Index: 22}), raft.Out{})
	if s := r.Status(); s.Commit != 21 {
		t.Fatalf("Status: %+v", s)
	}
}

// P9.5 MsgSnapped: who is above the base is sent entries, whatever it says of the snapshot.
func TestSnappedOfOneThatHasMore(t *testing.T) {
	r := behind(t, 600)
	o := snapped(r, api.Msg{From: 3, Index: 21, Offset: 256, Total: 600})
	if len(o.Msgs) != 1 || o.Msgs[0].Kind != api.MsgAppend || o.Msgs[0].Index != 21 || len(o.Msgs[0].Entries) != 1 {
		t.Fatalf("MsgSnapped: %s", short(o))
	}
}

// P9.5 MsgSnapped: with Total 0 it has all up to Index, as by MsgAppended: match, next, what is committed, and what it lacks.
func TestSnappedWhole(t *testing.T) {
	r := behind(t, 600)
	answers(r, 2, 0, true)
	snapped(r, api.Msg{From: 2, Index: 21, Offset: 512, Total: 600})
	entry22 := []api.Entry{{Index: 22, Term: 3, Cmd: command(1)}}
	more := api.Msg{Kind: api.MsgAppend, From: 1, To: 2, Term: 3, Index: 21, LogTerm: 3, Commit: 21, Entries: entry22}
	want(t, "the whole", snapped(r, api.Msg{From: 2, Index: 21}), raft.Out{Msgs: []api.Msg{more}})
	want(t, "less than it has", snapped(r, api.Msg{From: 2, Index: 5}), raft.Out{Msgs: []api.Msg{more}})
	want(t, "more than the snapshot", snapped(r, api.Msg{From: 2, Index: 22}), raft.Out{Commits: entry22})
	want(t, "a rejection", answers(r, 2, 3, true), raft.Out{Msgs: []api.Msg{{Kind: api.MsgAppend, From: 1, To: 2, Term: 3, Index: 22, LogTerm: 3, Commit: 22}}})
	want(t, "more than there is", snapped(r, api.Msg{From: 3, Index: math.MaxInt}), raft.Out{})
}

// P9.5 MsgAppended and MsgSnapped: how much one has begins anew where it says that it has come to an index.
func TestOffsetBeginsAnew(t *testing.T) {
	for _, kind := range []int{api.MsgAppended, api.MsgSnapped} {
		r := behind(t, 600)
		answers(r, 2, 0, true)
		snapped(r, api.Msg{From: 2, Index: 21, Offset: 256, Total: 600})
		want(t, "an answer", r.Step(to(r, api.Msg{Kind: kind, From: 2, Index: 4})), raft.Out{Msgs: []api.Msg{piece(2, 0, 600)}})
	}
	r := behind(t, 600)
	answers(r, 2, 0, true)
	snapped(r, api.Msg{From: 2, Index: 21, Offset: 256, Total: 600})
	want(t, "a rejection", answers(r, 2, 4, true), raft.Out{Msgs: []api.Msg{piece(2, 256, 600)}})
}

// P9.4: of a snapshot that takes the place of another one nobody is known to have anything, be it longer or shorter.
func TestOffsetOfAnotherSnapshot(t *testing.T) {
	for _, size := range []int{1, 100, 600, 700} {
		r := behind(t, 600)
		answers(r, 2, 0, true)
		snapped(r, api.Msg{From: 2, Index: 21, Offset: 512, Total: 600})
		answers(r, 3, 22, false)
		compacted(t, r, 22, bytesOf(size))
		r.Tick(0)
		o := r.Tick(0)
		m := piece(2, 0, size)
		m.Index = 22
		if len(o.Msgs) != 3 || !alike(o.Msgs[0], m) {
			t.Fatalf("a beat: %s", short(o))
		}
	}
}

// P9.5 MsgSnapped: a leader without a snapshot has one of the Index 0, of which nothing is sent: entries are.
func TestSnappedWithoutASnapshot(t *testing.T) {
	r := long(t)
	want(t, "MsgSnapped of 0", snapped(r, api.Msg{From: 2, Offset: 9, Total: 10}), raft.Out{Msgs: []api.Msg{lack(2, 21, 0)}})
	want(t, "MsgSnapped of 1", snapped(r, api.Msg{From: 2, Index: 1, Offset: 9, Total: 10}), raft.Out{})
}

// snap is a piece of a snapshot of 9 (3), for the server that old is.
func snap(offset, total int, data string) api.Msg {
	return api.Msg{Kind: api.MsgSnap, From: 3, To: 1, Term: 4, Index: 9, LogTerm: 3, Conf: servers([]int{1, 2}, []int{3}), Offset: offset, Total: total, Data: []byte(data)}
}

// has is the answer to a piece: so much there is.
func has(offset, total int) raft.Out {
	return raft.Out{Msgs: []api.Msg{{Kind: api.MsgSnapped, From: 1, To: 3, Term: 4, Index: 9, Offset: offset, Total: total}}}
}

// whole is the answer to the last piece.
func whole(data string) raft.Out {
	return raft.Out{
		Save: true, Hard: api.Hard{Term: 4},
		Snapshot: &api.Snapshot{Index: 9, Term: 3, Conf: servers([]int{1, 2}, []int{3}), Data: []byte(data)},
		Msgs:     []api.Msg{{Kind: api.MsgSnapped, From: 1, To: 3, Term: 4, Index: 9}},
	}
}

// P9.5 MsgSnap: pieces are put together, in whatever sizes; none twice.
func TestSnap(t *testing.T) {
	r := old(t)
	want(t, "a", r.Step(snap(0, 6, "a")), has(1, 6))
	want(t, "bc", r.Step(snap(1, 6, "bc")), has(3, 6))
	want(t, "bc again", r.Step(snap(1, 6, "bc")), has(3, 6))
	want(t, "nothing", r.Step(snap(3, 6, "")), has(3, 6))
	want(t, "too far", r.Step(snap(4, 6, "e")), has(3, 6))
	want(t, "below 0", r.Step(snap(-1, 6, "e")), has(3, 6))
	want(t, "the least number", r.Step(snap(math.MinInt, 6, "e")), has(3, 6))
	want(t, "the greatest number", r.Step(snap(math.MaxInt, 6, "e")), has(3, 6))
	want(t, "beyond Total", r.Step(snap(3, 6, "defg")), has(3, 6))
	want(t, "de", r.Step(snap(3, 6, "de")), has(5, 6))
	wantStatus(t, r, raft.Status{Leader: 3, Hard: api.Hard{Term: 4}, Commit: 3, Last: 5, Base: 2, Conf: voters(1, 2, 3)})
	want(t, "f", r.Step(snap(5, 6, "f")), whole("abcdef"))
	wantStatus(t, r, raft.Status{Leader: 3, Hard: api.Hard{Term: 4}, Commit: 9, Last: 9, Base: 9, Conf: servers([]int{1, 2}, []int{3})})
	want(t, "f again", r.Step(snap(5, 6, "f")), has(0, 0))
	want(t, "a late a", r.Step(snap(0, 6, "a")), has(0, 0))
}

// P9.5 MsgSnap: at once, with the greatest Total, and with more bytes than MaxChunk.
func TestSnapAtOnce(t *testing.T) {
	want(t, "one byte", old(t).Step(snap(0, 1, "x")), whole("x"))
	data := string(bytesOf(maxData))
	want(t, "2^20 bytes", old(t).Step(snap(0, maxData, data)), whole(data))
	r := old(t)
	want(t, "2^20 - 1 bytes", r.Step(snap(0, maxData, data[1:])), has(maxData-1, maxData))
	want(t, "one more", r.Step(snap(maxData-1, maxData, "z")), whole(data[1:]+"z"))
}

// P9.5 MsgSnap: Totals that are none: nothing is taken.
func TestSnapOfAWrongTotal(t *testing.T) {
	for _, total := range []int{0, -1, math.MinInt, maxData + 1, math.MaxInt} {
		r := old(t)
		r.Step(snap(0, 3, "ab"))
		for _, data := range []string{"", "x", string(bytesOf(maxData + 1))} {
			want(t, fmt.Sprintf("Total %d", total), r.Step(snap(0, total, data)), has(0, max(total, 1)))
			want(t, fmt.Sprintf("Total %d, from 2 on", total), r.Step(snap(2, total, data)), has(0, max(total, 1)))
		}
		want(t, "the piece ahead is forgotten", r.Step(snap(2, 3, "c")), has(0, 3))
		if s := r.Status(); s.Commit != 3 || s.Base != 2 || s.Last != 5 {
			t.Fatalf("Status: %+v", s)
		}
	}
}

// P9.5 MsgSnap: another Term, From, Index, LogTerm or Total begins anew, and so does the Offset 0.
func TestSnapBeginsAnew(t *testing.T) {
	for what, change := range map[string]func(m *api.Msg){
		"Term":    func(m *api.Msg) { m.Term = 5 },
		"From":    func(m *api.Msg) { m.From = 2 },
		"Index":   func(m *api.Msg) { m.Index = 8 },
		"LogTerm": func(m *api.Msg) { m.LogTerm = 4 },
		"Total":   func(m *api.Msg) { m.Total = 7 },
	} {
		r := old(t)
		r.Step(snap(0, 6, "abc"))
		m := snap(3, 6, "def")
		change(&m)
		o := r.Step(m)
		if len(o.Msgs) != 1 || o.Msgs[0].Offset != 0 || o.Msgs[0].Total != m.Total || o.Snapshot != nil {
			t.Errorf("another %s: %s", what, short(o))
		}
		m = snap(3, 6, "def")
		m.Term = r.Status().Hard.Term
		if o := r.Step(m); o.Msgs[0].Offset != 0 || o.Snapshot != nil {
			t.Errorf("behind another %s: %s", what, short(o))
		}
	}
	r := old(t)
	r.Step(snap(0, 6, "abc"))
	want(t, "from 0 on", r.Step(snap(0, 6, "de")), has(2, 6))
	want(t, "from 0 on, beyond Total", r.Step(snap(0, 6, "abcdefg")), has(0, 6))
	r.Step(snap(0, 6, "abc"))
	want(t, "from 0 on, nothing", r.Step(snap(0, 6, "")), has(0, 6))
	want(t, "all", r.Step(snap(0, 6, "uvwxyz")), whole("uvwxyz"))
}

// P9.5 MsgSnap: pieces stay while other messages come, as long as the Term does.
func TestPiecesStay(t *testing.T) {
	r := old(t)
	r.Step(snap(0, 3, "ab"))
	r.Step(api.Msg{Kind: api.MsgAppend, From: 3, To: 1, Term: 4, Index: 5, LogTerm: 2, Entries: entries(6, 3), Commit: 6})
	r.Step(api.Msg{Kind: api.MsgVote, From: 2, To: 1, Term: 4, Index: 9, LogTerm: 4})
	m := snap(0, 3, "ab")
	m.Index = 6
	want(t, "a piece of what is committed", r.Step(m), raft.Out{Msgs: []api.Msg{{Kind: api.MsgSnapped, From: 1, To: 3, Term: 4, Index: 6}}})
	compacted(t, r, 5, []byte("x"))
	o := whole("abc")
	o.Hard.Vote = 2
	want(t, "the last piece", r.Step(snap(2, 3, "c")), o)
}

// P9.5 MsgSnap: servers that may not be, and a LogTerm or an Index that a log can't begin with: all bytes are there, and it is not taken.
func TestSnapThatMayNotBe(t *testing.T) {
	for what, change := range map[string]func(m *api.Msg){
		"no servers":             func(m *api.Msg) { m.Conf = api.Conf{} },
		"servers that can't be":  func(m *api.Msg) { m.Conf = voters(2, 1) },
		"a server 6":             func(m *api.Msg) { m.Conf = voters(1, 6) },
		"LogTerm 0":              func(m *api.Msg) { m.LogTerm = 0 },
		"LogTerm below 0":        func(m *api.Msg) { m.LogTerm = math.MinInt },
		"an Index too great":     func(m *api.Msg) { m.Index = most + 1 },
		"the greatest Index":     func(m *api.Msg) { m.Index = math.MaxInt },
		"both, and no servers":   func(m *api.Msg) { m.Index, m.LogTerm, m.Conf = most+1, 0, api.Conf{} },
		"only learners":          func(m *api.Msg) { m.Conf = servers(nil, []int{1}) },
		"a learner that votes":   func(m *api.Msg) { m.Conf = servers([]int{1}, []int{1}) },
		"learners out of order":  func(m *api.Msg) { m.Conf = servers([]int{1}, []int{3, 2}) },
		"the term 0 and no Data": func(m *api.Msg) { m.LogTerm, m.Data = 0, nil },
	} {
		r := old(t)
		m := snap(0, 2, "ab")
		change(&m)
		wanted := has(len(m.Data), 2)
		wanted.Msgs[0].Index = m.Index
		want(t, what, r.Step(m), wanted)
		wantStatus(t, r, raft.Status{Leader: 3, Hard: api.Hard{Term: 4}, Commit: 3, Last: 5, Base: 2, Conf: voters(1, 2, 3)})
	}
	r := old(t)
	m := snap(0, 2, "ab")
	m.Conf = api.Conf{}
	r.Step(m)
	want(t, "with servers that may be", r.Step(snap(2, 2, "")), whole("ab"))
}

// P9.5 MsgSnap: what is committed already is answered with that.
func TestSnapOfWhatIsCommitted(t *testing.T) {
	for _, index := range []int{3, 2, 1, 0, -1, math.MinInt} {
		r := old(t)
		m := snap(0, 1, "x")
		m.Index, m.Ctx = index, 8
		want(t, fmt.Sprintf("a snapshot of %d", index), r.Step(m), raft.Out{Msgs: []api.Msg{{Kind: api.MsgSnapped, From: 1, To: 3, Term: 4, Index: 3}}})
		wantStatus(t, r, raft.Status{Leader: 3, Hard: api.Hard{Term: 4}, Commit: 3, Last: 5, Base: 2, Conf: voters(1, 2, 3)})
	}
}

// P9.5 MsgSnap: what stands behind it in the log stays, if the log has its entry; else none does; nothing of it is told as committed.
func TestSnapBesideALog(t *testing.T) {
	for _, x := range []struct{ index, term, last int }{{4, 2, 5}, {5, 2, 5}, {4, 3, 4}, {4, 1, 4}, {5, 4, 5}, {5, 1, 5}, {6, 2, 6}, {most, 4, most}} {
		r := old(t)
		m := snap(0, 1, "x")
		m.Index, m.LogTerm = x.index, x.term
		wanted := whole("x")
		wanted.Snapshot.Index, wanted.Snapshot.Term, wanted.Msgs[0].Index = x.index, x.term, x.index
		want(t, fmt.Sprintf("a snapshot of %d (%d)", x.index, x.term), r.Step(m), wanted)
		wantStatus(t, r, raft.Status{Leader: 3, Hard: api.Hard{Term: 4}, Commit: x.index, Last: x.last, Base: x.index, Conf: servers([]int{1, 2}, []int{3})})
		if x.last > x.index {
			o := r.Step(api.Msg{Kind: api.MsgAppend, From: 3, To: 1, Term: 4, Index: 5, LogTerm: 2, Commit: 9})
			want(t, "what stays is committed", o, raft.Out{Commits: entries(5, 2), Msgs: []api.Msg{{Kind: api.MsgAppended, From: 1, To: 3, Term: 4, Index: 5}}})
		}
	}
}

// The word 'its servers': of a snapshot that came they are those of the entries that stay behind it, if there is a CmdConf, else its own.
func TestServersOfASnapshot(t *testing.T) {
	made := func() *raft.Raft {
		r := fresh(t, 1, voters(1, 2, 3))
		list := []api.Entry{entry(1, 1), confEntry(2, 1, voters(1, 2)), entry(3, 1), confEntry(4, 1, voters(1, 2, 4)), entry(5, 1)}
		r.Step(api.Msg{Kind: api.MsgAppend, From: 3, To: 1, Term: 4, Entries: list})
		return r
	}
	for _, x := range []struct {
		index, term int
		c           api.Conf
	}{{1, 1, voters(1, 2, 4)}, {3, 1, voters(1, 2, 4)}, {4, 1, voters(5)}, {5, 1, voters(5)}, {3, 2, voters(5)}, {1, 2, voters(5)}} {
		r := made()
		m := snap(0, 1, "x")
		m.Index, m.LogTerm, m.Conf = x.index, x.term, voters(5)
		if r.Step(m); !alike(r.Status().Conf, x.c) {
			t.Errorf("behind a snapshot of %d (%d): %v; not %v", x.index, x.term, r.Status().Conf, x.c)
		}
	}
}

// P9.5 MsgSnap: who stands follows; a leader does nothing.
func TestSnapToEachRole(t *testing.T) {
	for role, r := range roles(t) {
		was := r.Status()
		o := r.Step(api.Msg{Kind: api.MsgSnap, From: 4, To: 1, Term: 5, Index: 9, LogTerm: 5, Conf: voters(1, 2), Total: 1, Data: []byte("x")})
		if role == "leader" {
			want(t, "a piece to a leader", o, raft.Out{})
			wantStatus(t, r, was)
			continue
		}
		wantStatus(t, r, raft.Status{Leader: 4, Hard: was.Hard, Commit: 9, Last: 9, Base: 9, Conf: voters(1, 2)})
	}
}

// P9.4 and P9.5: a snapshot that came is sent on by who leads then.
func TestASnapshotThatCameIsSent(t *testing.T) {
	r := old(t)
	data := string(bytesOf(300))
	r.Step(snap(0, 300, data[:200]))
	r.Step(snap(200, 300, data[200:]))
	leads(t, r, 2)
	want(t, "a rejection", answers(r, 3, 0, true), raft.Out{Msgs: []api.Msg{
		{Kind: api.MsgSnap, From: 1, To: 3, Term: 5, Index: 9, LogTerm: 3, Conf: servers([]int{1, 2}, []int{3}), Total: 300, Data: []byte(data[:256])},
	}})
}
