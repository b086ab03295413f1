package raft_test

import (
	"fmt"
	"math"
	"testing"

	"coxswain/api"
	"coxswain/raft"
)

// old is a server 1 that has 2 (1) as its base, 3 (1), 4 (2), 5 (2) in its log, and has committed up to 3, in the Term 4.
func old(t *testing.T) *raft.Raft {
	t.Helper()
	c := voters(1, 2, 3)
	r := opened(t, 1, c, api.Saved{Hard: api.Hard{Term: 4}, Snapshot: api.Snapshot{Index: 2, Term: 1, Conf: c, Data: []byte("s")}, Entries: entries(3, 1, 2, 2)})
	r.Step(api.Msg{Kind: api.MsgAppend, From: 2, To: 1, Term: 4, Index: 3, LogTerm: 1, Commit: 3})
	return r
}

// logOf asks what a server's log is, by what it sends as a leader to one that has nothing but the base.
func logOf(t *testing.T, r *raft.Raft) []api.Entry {
	t.Helper()
	base, last := r.Status().Base, r.Status().Last
	leads(t, r, 2, 3)
	var out []api.Entry
	for index := base; index < last; {
		o := r.Step(to(r, api.Msg{Kind: api.MsgAppended, From: 2, Index: index, Reject: true}))
		for o.Msgs[0].Index != index {
			o = r.Step(to(r, api.Msg{Kind: api.MsgAppended, From: 2, Index: index, Reject: true}))
		}
		out = append(out, o.Msgs[0].Entries...)
		index = out[len(out)-1].Index
		acked(r, 2, index)
	}
	return out[:last-base]
}

func appended(index int, reject bool) api.Msg {
	return api.Msg{Kind: api.MsgAppended, From: 1, To: 3, Term: 4, Index: index, Reject: reject, Ctx: 77}
}

// P9.5 MsgAppend: below what is committed; what the log is not alike with; what it is.
func TestAppend(t *testing.T) {
	for _, x := range []struct {
		what        string
		index, term int
		list        []api.Entry
		commit      int
		answer      api.Msg
		saved       []api.Entry
		commits     []api.Entry
		last        int
	}{
		{"below what is committed", 2, 1, entries(3, 1, 1), 9, appended(3, false), nil, nil, 5},
		{"below what is committed, of another term", 2, 3, entries(3, 3, 3), 9, appended(3, false), nil, nil, 5},
		{"below the base", 1, 1, nil, 9, appended(3, false), nil, nil, 5},
		{"at nothing", 0, 0, entries(1, 1, 1, 1, 2, 2), 9, appended(3, false), nil, nil, 5},
		{"below 0", -1, 0, nil, 9, appended(3, false), nil, nil, 5},
		{"at the least number", math.MinInt, math.MinInt, nil, math.MaxInt, appended(3, false), nil, nil, 5},
		{"at what is committed, of another term", 3, 2, nil, 9, appended(2, true), nil, nil, 5},
		{"at an entry of another term", 4, 1, entries(5, 3), 9, appended(3, true), nil, nil, 5},
		{"at the last, of another term", 5, 4, entries(6, 4), 9, appended(4, true), nil, nil, 5},
		{"behind the last", 6, 4, entries(7, 4), 9, appended(5, true), nil, nil, 5},
		{"far behind the last", 9, 2, nil, 9, appended(5, true), nil, nil, 5},
		{"at the greatest number", math.MaxInt, 4, nil, math.MaxInt, appended(5, true), nil, nil, 5},
		{"of a term below 0", 3, -1, nil, 9, appended(2, true), nil, nil, 5},
		{"entries that may not come", 5, 2, entries(7, 2), 9, appended(4, true), nil, nil, 5},
		{"terms that fall", 5, 2, entries(6, 3, 2, 4), 9, appended(4, true), nil, nil, 5},
		{"entries beyond the greatest number", 5, 2, entries(most+1, 2), 9, appended(4, true), nil, nil, 5},
		{"an empty one at the last", 5, 2, nil, 3, appended(5, false), nil, nil, 5},
		{"an empty one that commits all", 5, 2, nil, 9, appended(5, false), nil, entries(4, 2, 2), 5},
		{"an empty one that commits up to itself", 4, 2, nil, 9, appended(4, false), nil, entries(4, 2), 5},
		{"an empty one that commits as told", 5, 2, nil, 4, appended(5, false), nil, entries(4, 2), 5},
		{"an empty one at what is committed", 3, 1, nil, 9, appended(3, false), nil, nil, 5},
		{"less than is committed", 5, 2, nil, 2, appended(5, false), nil, nil, 5},
		{"a commit below 0", 5, 2, nil, -1, appended(5, false), nil, nil, 5},
		{"the least commit", 5, 2, nil, math.MinInt, appended(5, false), nil, nil, 5},
		{"the greatest commit", 5, 2, nil, math.MaxInt, appended(5, false), nil, entries(4, 2, 2), 5},
		{"what it has", 3, 1, entries(4, 2), 3, appended(4, false), nil, nil, 5},
		{"what it has, committed", 3, 1, entries(4, 2), 9, appended(4, false), nil, entries(4, 2), 5},
		{"new ones", 5, 2, entries(6, 2, 4), 3, appended(7, false), entries(6, 2, 4), nil, 7},
		{"new ones, committed", 5, 2, entries(6, 2, 4), 9, appended(7, false), entries(6, 2, 4), append(entries(4, 2, 2), entries(6, 2, 4)...), 7},
		{"some that it has", 4, 2, entries(5, 2, 4, 4), 6, appended(7, false), entries(6, 4, 4), append(entries(4, 2, 2), entry(6, 4)), 7},
		{"others than it has", 3, 1, entries(4, 3), 3, appended(4, false), entries(4, 3), nil, 4},
		{"others than it has, committed", 3, 1, entries(4, 2, 4, 4), 5, appended(6, false), entries(5, 4, 4), append(entries(4, 2), entry(5, 4)), 6},
		{"more than MaxEntries", 5, 2, entries(6, 2, 2, 2, 2, 2, 2, 2, 2, 2, 2), 3, appended(15, false), entries(6, 2, 2, 2, 2, 2, 2, 2, 2, 2, 2), nil, 15},
	} {
		r := old(t)
		log := append(entries(3, 1, 2, 2), x.saved...)
		if len(x.saved) > 0 {
			log = append(entries(3, 1, 2, 2)[:x.saved[0].Index-3], x.saved...)
		}
		o := r.Step(api.Msg{Kind: api.MsgAppend, From: 3, To: 1, Term: 4, Index: x.index, LogTerm: x.term, Entries: x.list, Commit: x.commit, Ctx: 77})
		wanted := raft.Out{Msgs: []api.Msg{x.answer}, Commits: x.commits}
		if x.saved != nil {
			wanted.Save, wanted.Hard, wanted.Entries = true, api.Hard{Term: 4}, x.saved
		}
		want(t, x.what, o, wanted)
		wantStatus(t, r, raft.Status{Leader: 3, Hard: api.Hard{Term: 4}, Commit: 3 + len(x.commits), Last: x.last, Base: 2, Conf: voters(1, 2, 3)})
		if got := logOf(t, r); !alike(got, log) {
			t.Errorf("%s: its log: %s; not %s", x.what, shortList(got), shortList(log))
		}
	}
}

// P9.5 MsgAppend: doubled, late and out of their order: the log and what is committed never fall back.
func TestAppendsOutOfOrder(t *testing.T) {
	r := fresh(t, 1, voters(1, 2))
	list := entries(1, 1, 1, 1, 1)
	ask := func(from, count, commit int, answer int, reject bool, saved, commits []api.Entry) {
		t.Helper()
		m := api.Msg{Kind: api.MsgAppend, From: 2, To: 1, Term: 1, Index: from - 1, Entries: list[from-1 : from-1+count], Commit: commit}
		if from > 1 {
			m.LogTerm = 1
		}
		o := r.Step(m)
		o.Save, o.Hard = false, api.Hard{}
		want(t, fmt.Sprintf("an append from %d on", from), o, raft.Out{Entries: saved, Commits: commits, Msgs: []api.Msg{{Kind: api.MsgAppended, From: 1, To: 2, Term: 1, Index: answer, Reject: reject}}})
	}
	ask(3, 2, 2, 0, true, nil, nil)
	ask(1, 2, 0, 2, false, list[:2], nil)
	ask(3, 2, 2, 4, false, list[2:], list[:2])
	ask(3, 2, 2, 4, false, nil, nil)
	ask(1, 2, 1, 2, false, nil, nil)
	ask(2, 1, 1, 2, false, nil, nil)
	ask(3, 0, 4, 2, false, nil, nil)
	ask(3, 1, 4, 3, false, nil, list[2:3])
	ask(3, 2, 4, 3, false, nil, nil)
	ask(4, 1, 4, 4, false, nil, list[3:])
}

// P9.5 MsgAppend: at nothing, with a term that nothing has, the answer's Index is -1.
func TestAppendAtNothing(t *testing.T) {
	r := fresh(t, 1, voters(1, 2))
	want(t, "an append", r.Step(api.Msg{Kind: api.MsgAppend, From: 2, To: 1, Term: 3, LogTerm: 2}), raft.Out{Save: true, Hard: api.Hard{Term: 3}, Msgs: []api.Msg{
		{Kind: api.MsgAppended, From: 1, To: 2, Term: 3, Index: -1, Reject: true},
	}})
}

// P9.5 MsgAppend: a follower knows who leads, also when another one says so; who stands follows; a leader does nothing.
func TestAppendToEachRole(t *testing.T) {
	for role, r := range roles(t) {
		was := r.Status()
		for _, from := range []int{2, 4, 5, 3} {
			o := r.Step(api.Msg{Kind: api.MsgAppend, From: from, To: 1, Term: 5, Index: 3, LogTerm: 3, Entries: entries(4, 5), Commit: 4, Ctx: 1})
			if role == "leader" {
				want(t, "an append to a leader", o, raft.Out{})
				wantStatus(t, r, was)
				continue
			}
			if s := r.Status(); s.Role != raft.Follower || s.Leader != from || s.Hard != was.Hard || len(o.Msgs) != 1 || o.Msgs[0].To != from {
				t.Fatalf("an append to a %s: %+v, %s", role, s, short(o))
			}
		}
	}
}
