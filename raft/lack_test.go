package raft_test

import (
	"fmt"
	"math"
	"slices"
	"testing"

	"coxswain/api"
	"coxswain/raft"
)

// long is a leader of the Term 3, of voters 1 to 3 and learner 4, whose log is 1 to 20 (term 2) and its own entry 21; with what it sent.
func long(t *testing.T) *raft.Raft {
	t.Helper()
	r := having(t, 1, servers([]int{1, 2, 3}, []int{4}), entries(1, slices.Repeat([]int{2}, 20)...)...)
	o := leads(t, r, 2)
	for i, m := range o.Msgs {
		if m.To != i+2 || m.Index != 20 || m.LogTerm != 2 || !alike(m.Entries, []api.Entry{nop(21, 3)}) {
			t.Fatalf("leading: %s", short(o))
		}
	}
	return r
}

// longLog are its entries from one on.
func longLog(from int) []api.Entry {
	return append(entries(1, slices.Repeat([]int{2}, 20)...), nop(21, 3))[from-1:]
}

// lack is what it sends to one that lacks all from next on.
func lack(to, next, commit int) api.Msg {
	m := api.Msg{Kind: api.MsgAppend, From: 1, To: to, Term: 3, Index: next - 1, Commit: commit}
	if next > 1 {
		m.LogTerm = 2
	}
	if next > 21 {
		m.LogTerm = 3
		return m
	}
	list := longLog(next)
	m.Entries = list[:min(len(list), api.MaxEntries)]
	return m
}

func answers(r *raft.Raft, from, index int, reject bool) raft.Out {
	return r.Step(to(r, api.Msg{Kind: api.MsgAppended, From: from, Index: index, Reject: reject}))
}

// P9.4 and P9.5 MsgAppended: with Reject next is the lesser of one less and the hint and 1, at least match + 1.
func TestRejected(t *testing.T) {
	r := long(t)
	for _, x := range []struct{ index, next int }{
		{20, 20}, {20, 19}, {math.MaxInt, 18}, {most, 17}, {16, 16}, {15, 15}, {9, 10}, {9, 9}, {5, 6}, {0, 1}, {0, 1}, {7, 1},
	} {
		want(t, fmt.Sprintf("a rejection with %d", x.index), answers(r, 2, x.index, true), raft.Out{Msgs: []api.Msg{lack(2, x.next, 0)}})
	}
	for _, index := range []int{0, -1, -2, -most, math.MinInt} {
		r := long(t)
		want(t, fmt.Sprintf("a rejection with %d", index), answers(r, 2, index, true), raft.Out{Msgs: []api.Msg{lack(2, 1, 0)}})
		want(t, "the others are where they were", answers(r, 3, 20, true), raft.Out{Msgs: []api.Msg{lack(3, 20, 0)}})
	}
	r = long(t)
	answers(r, 4, 5, true)
	answers(r, 4, 4, false)
	want(t, "a rejection below match", answers(r, 4, 2, true), raft.Out{Msgs: []api.Msg{lack(4, 5, 0)}})
	want(t, "a rejection at match", answers(r, 4, 4, true), raft.Out{Msgs: []api.Msg{lack(4, 5, 0)}})
	want(t, "a rejection far below match", answers(r, 4, math.MinInt, true), raft.Out{Msgs: []api.Msg{lack(4, 5, 0)}})
}

// P9.5 MsgAppended: without Reject match and next go on, and it is sent more, MaxEntries at a time, till it lacks none.
func TestCaughtUp(t *testing.T) {
	r := long(t)
	answers(r, 4, 0, true)
	want(t, "eight", answers(r, 4, 8, false), raft.Out{Msgs: []api.Msg{lack(4, 9, 0)}})
	want(t, "eight again", answers(r, 4, 8, false), raft.Out{Msgs: []api.Msg{lack(4, 9, 0)}})
	want(t, "sixteen", answers(r, 4, 16, false), raft.Out{Msgs: []api.Msg{lack(4, 17, 0)}})
	want(t, "a late eight", answers(r, 4, 8, false), raft.Out{Msgs: []api.Msg{lack(4, 17, 0)}})
	want(t, "an Index below 0", answers(r, 4, math.MinInt, false), raft.Out{Msgs: []api.Msg{lack(4, 17, 0)}})
	want(t, "all", answers(r, 4, 21, false), raft.Out{})
	want(t, "a late sixteen", answers(r, 4, 16, false), raft.Out{})
	want(t, "a rejection behind all", answers(r, 4, 3, true), raft.Out{Msgs: []api.Msg{lack(4, 22, 0)}})
}

// P9.5 MsgAppended: match is at most the last index; next does not fall.
func TestMoreThanThereIs(t *testing.T) {
	for _, index := range []int{22, most, math.MaxInt} {
		r := long(t)
		o := answers(r, 2, index, false)
		want(t, fmt.Sprintf("an answer with %d", index), o, raft.Out{Commits: longLog(1)})
		if s := r.Status(); s.Commit != 21 || s.Last != 21 {
			t.Fatalf("Status: %+v", s)
		}
		_, o = proposed(t, r, command(1))
		if len(o.Msgs) != 1 || o.Msgs[0].To != 2 || o.Msgs[0].Index != 21 || o.Msgs[0].Commit != 21 {
			t.Fatalf("Propose: %s", short(o))
		}
		want(t, "a later answer", answers(r, 3, 22, false), raft.Out{Commits: []api.Entry{{Index: 22, Term: 3, Cmd: command(1)}}})
	}
	r := long(t)
	want(t, "an answer below what next says", answers(r, 3, 9, false), raft.Out{Msgs: []api.Msg{lack(3, 21, 0)}})
}

// P9.5 MsgAppended: who is no member says nothing; nor does anybody to one that does not lead.
func TestAnswersOfStrangers(t *testing.T) {
	r := long(t)
	was := r.Status()
	want(t, "a stranger", answers(r, 5, 21, false), raft.Out{})
	want(t, "a stranger", answers(r, 5, 3, true), raft.Out{})
	wantStatus(t, r, was)
	for role, r := range roles(t) {
		if role == "leader" {
			continue
		}
		was := r.Status()
		for _, kind := range []int{api.MsgAppended, api.MsgSnapped} {
			for _, reject := range []bool{false, true} {
				want(t, "an answer to a "+role, r.Step(to(r, api.Msg{Kind: kind, From: 2, Index: 3, Reject: reject, Ctx: 1, Total: 1})), raft.Out{})
				want(t, "an answer to a "+role, r.Step(to(r, api.Msg{Kind: kind, From: 2, Index: 3, Reject: reject})), raft.Out{})
			}
		}
		wantStatus(t, r, was)
	}
}

// P9.5 MsgAppended: a majority of voters (itself too) commits; learners don't count; with four voters it takes three.
func TestCommit(t *testing.T) {
	r := long(t)
	want(t, "a learner", answers(r, 4, 21, false), raft.Out{})
	want(t, "a voter", answers(r, 3, 21, false), raft.Out{Commits: longLog(1)})
	want(t, "another one", answers(r, 2, 21, false), raft.Out{})

	r = fresh(t, 1, voters(1, 2, 3, 4))
	leads(t, r, 2, 3)
	want(t, "one of three more", answers(r, 2, 1, false), raft.Out{})
	want(t, "the same again", answers(r, 2, 1, false), raft.Out{})
	want(t, "two of three more", answers(r, 4, 1, false), raft.Out{Commits: []api.Entry{nop(1, 1)}})
}

// P9.5 MsgAppended: an entry of a lesser term is not committed by being counted, but by one of the Term behind it.
func TestCommitOfTheTerm(t *testing.T) {
	r := long(t)
	want(t, "up to the term ahead", answers(r, 2, 20, false), raft.Out{Msgs: []api.Msg{lack(2, 21, 0)}})
	want(t, "up to the term ahead", answers(r, 3, 20, false), raft.Out{Msgs: []api.Msg{lack(3, 21, 0)}})
	if s := r.Status(); s.Commit != 0 {
		t.Fatalf("committed: %d", s.Commit)
	}
	want(t, "the first of the Term", answers(r, 3, 21, false), raft.Out{Commits: longLog(1)})
}

// P9.5 MsgAppended: what is committed goes up to where the majority has come, and the message that follows tells it.
func TestCommitOfAPart(t *testing.T) {
	r := long(t)
	list := longLog(1)
	for i := range 10 {
		x, _ := proposed(t, r, command(i))
		list = append(list, x)
	}
	o := answers(r, 2, 24, false)
	want(t, "a part", o, raft.Out{Commits: list[:24], Msgs: []api.Msg{{Kind: api.MsgAppend, From: 1, To: 2, Term: 3, Index: 24, LogTerm: 3, Entries: list[24:31], Commit: 24}}})
	o = answers(r, 3, 30, false)
	want(t, "a part", o, raft.Out{Commits: list[24:30], Msgs: []api.Msg{{Kind: api.MsgAppend, From: 1, To: 3, Term: 3, Index: 30, LogTerm: 3, Entries: list[30:31], Commit: 30}}})
	want(t, "less than is committed", answers(r, 2, 28, false), raft.Out{Msgs: []api.Msg{{Kind: api.MsgAppend, From: 1, To: 2, Term: 3, Index: 28, LogTerm: 3, Entries: list[28:31], Commit: 30}}})
	want(t, "the last", answers(r, 3, 31, false), raft.Out{Commits: list[30:]})
}

// P9.4: at most MaxEntries from next on.
func TestAtMostMaxEntries(t *testing.T) {
	for missing := 7; missing <= 10; missing++ {
		r := long(t)
		o := answers(r, 2, 21-missing, true)
		if got := len(o.Msgs[0].Entries); got != min(missing, api.MaxEntries) || o.Msgs[0].Entries[0].Index != 22-missing {
			t.Errorf("of %d that it lacks it is sent %d", missing, got)
		}
	}
}

// P9.3: what was known of others in an earlier time as a leader is forgotten.
func TestLeadsAnew(t *testing.T) {
	r := long(t)
	answers(r, 2, 21, false)
	answers(r, 4, 0, true)
	r.Step(api.Msg{Kind: api.MsgAppend, From: 3, To: 1, Term: 9, Index: 21, LogTerm: 3})
	o := leads(t, r, 3)
	m := api.Msg{Kind: api.MsgAppend, From: 1, Term: 10, Index: 21, LogTerm: 3, Entries: []api.Entry{nop(22, 10)}, Commit: 21}
	a, b, c := m, m, m
	a.To, b.To, c.To = 2, 3, 4
	wantMsgs(t, "leading", o, a, b, c)
	want(t, "a learner's answer", answers(r, 4, 22, false), raft.Out{})
	want(t, "a voter's answer", answers(r, 3, 22, false), raft.Out{Commits: []api.Entry{nop(22, 10)}})
}
