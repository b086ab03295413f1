package raft_test

import (
	"fmt"
	"testing"

	"coxswain/api"
	"coxswain/raft"
)

func refusesCompact(t *testing.T, r *raft.Raft, index int, data []byte, wanted api.Errno) {
	t.Helper()
	was := r.Status()
	e, o := r.Compact(index, data)
	if e != wanted {
		t.Fatalf("Compact(%d, %d bytes): %d; not %d", index, len(data), e, wanted)
	}
	want(t, "Compact that does nothing", o, raft.Out{})
	wantStatus(t, r, was)
}

// committed is a follower whose log is 1 (1) to 6 (2), with servers of the entries 2 and 5, of which up to 5 is committed.
func committed(t *testing.T) *raft.Raft {
	t.Helper()
	r := fresh(t, 1, voters(1, 2, 3))
	list := []api.Entry{entry(1, 1), confEntry(2, 1, voters(1, 2)), entry(3, 2), entry(4, 2), confEntry(5, 2, servers([]int{1, 2}, []int{4})), confEntry(6, 2, voters(1, 2, 4))}
	r.Step(api.Msg{Kind: api.MsgAppend, From: 2, To: 1, Term: 3, Entries: list, Commit: 5})
	return r
}

// P9.8: the snapshot has the entry's term and the servers of the log up to it; it is saved, and entries up to it go.
func TestCompact(t *testing.T) {
	last := voters(1, 2, 4)
	for _, x := range []struct {
		index, term int
		c           api.Conf
	}{{1, 1, voters(1, 2, 3)}, {2, 1, voters(1, 2)}, {3, 2, voters(1, 2)}, {4, 2, voters(1, 2)}, {5, 2, servers([]int{1, 2}, []int{4})}} {
		r := committed(t)
		o := compacted(t, r, x.index, []byte("data"))
		want(t, fmt.Sprintf("Compact(%d)", x.index), o, raft.Out{Save: true, Hard: api.Hard{Term: 3}, Snapshot: &api.Snapshot{Index: x.index, Term: x.term, Conf: x.c, Data: []byte("data")}})
		wantStatus(t, r, raft.Status{Leader: 2, Hard: api.Hard{Term: 3}, Commit: 5, Last: 6, Base: x.index, Conf: last})
		for i := -1; i <= x.index; i++ {
			refusesCompact(t, r, i, []byte("data"), api.OK)
		}
	}
}

// P9.8: one behind the other; servers are those up to each, also when their entry is in the snapshot ahead.
func TestCompactAgain(t *testing.T) {
	r := committed(t)
	for index := 1; index <= 5; index++ {
		o := compacted(t, r, index, bytesOf(index))
		c := []api.Conf{voters(1, 2, 3), voters(1, 2), voters(1, 2), voters(1, 2), servers([]int{1, 2}, []int{4})}[index-1]
		if o.Snapshot == nil || o.Snapshot.Index != index || !alike(o.Snapshot.Conf, c) || len(o.Snapshot.Data) != index {
			t.Fatalf("Compact(%d): %s", index, short(o))
		}
	}
	// The entry 6 loses its place: its servers are the snapshot's then.
	r.Step(api.Msg{Kind: api.MsgAppend, From: 2, To: 1, Term: 4, Index: 5, LogTerm: 2, Entries: entries(6, 4)})
	if s := r.Status(); !alike(s.Conf, servers([]int{1, 2}, []int{4})) || s.Last != 6 || s.Base != 5 {
		t.Fatalf("Status: %+v", s)
	}
}

// P9.8: what is refused: data first; then an index above what is committed, be it in the log or not.
func TestCompactRefuses(t *testing.T) {
	r := committed(t)
	for _, data := range [][]byte{nil, {}, bytesOf(maxData + 1)} {
		for _, index := range append(farNumbers(), 0, 1, 5, 6, 7) {
			refusesCompact(t, r, index, data, api.ErrArg)
		}
	}
	for _, index := range []int{6, 7, most, most + 1, 1 << 62} {
		refusesCompact(t, r, index, []byte("x"), api.ErrEmpty)
	}
	for _, index := range farNumbers() {
		wanted := api.OK
		if index > 0 {
			wanted = api.ErrEmpty
		}
		refusesCompact(t, r, index, []byte("x"), wanted)
	}
	refusesCompact(t, r, 0, []byte("x"), api.OK)
	refusesCompact(t, fresh(t, 1, voters(1)), 0, []byte("x"), api.OK)
	refusesCompact(t, fresh(t, 1, voters(1)), 1, []byte("x"), api.ErrEmpty)
}

// P9.8: one byte and 2^20 are taken.
func TestCompactOfData(t *testing.T) {
	for _, n := range []int{1, maxData} {
		o := compacted(t, committed(t), 3, bytesOf(n))
		if o.Snapshot == nil || string(o.Snapshot.Data) != string(bytesOf(n)) {
			t.Errorf("Compact of %d bytes", n)
		}
	}
}

// P9.8: in each role, and with what comes behind: the log goes on behind the base.
func TestCompactInEachRole(t *testing.T) {
	for role := range roles(t) {
		r := committed(t)
		if role != "follower" {
			candidate(t, r)
		}
		if role == "leader" {
			r.Step(to(r, api.Msg{Kind: api.MsgVoted, From: 2}))
		}
		was := r.Status()
		o := compacted(t, r, 4, []byte("x"))
		want(t, "Compact of a "+role, o, raft.Out{Save: true, Hard: was.Hard, Snapshot: &api.Snapshot{Index: 4, Term: 2, Conf: voters(1, 2), Data: []byte("x")}})
		was.Base = 4
		wantStatus(t, r, was)
	}
}

// P9.8: behind a snapshot that came, and behind one that was saved.
func TestCompactBehindASnapshot(t *testing.T) {
	r := old(t)
	r.Step(snap(0, 1, "x"))
	refusesCompact(t, r, 9, []byte("y"), api.OK)
	refusesCompact(t, r, 10, []byte("y"), api.ErrEmpty)
	r.Step(api.Msg{Kind: api.MsgAppend, From: 3, To: 1, Term: 4, Index: 9, LogTerm: 3, Entries: entries(10, 4), Commit: 10})
	want(t, "Compact", compacted(t, r, 10, []byte("y")), raft.Out{Save: true, Hard: api.Hard{Term: 4}, Snapshot: &api.Snapshot{Index: 10, Term: 4, Conf: servers([]int{1, 2}, []int{3}), Data: []byte("y")}})

	r = opened(t, 1, voters(1), full())
	refusesCompact(t, r, 6, []byte("y"), api.OK)
	r.Step(api.Msg{Kind: api.MsgAppend, From: 3, To: 1, Term: 4, Index: 9, LogTerm: 4, Commit: 8})
	want(t, "Compact", compacted(t, r, 8, []byte("y")), raft.Out{Save: true, Hard: api.Hard{Term: 4, Vote: 3}, Snapshot: &api.Snapshot{Index: 8, Term: 3, Conf: servers([]int{2, 3}, []int{1}), Data: []byte("y")}})
}
