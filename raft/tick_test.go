package raft_test

import (
	"fmt"
	"math"
	"testing"

	"coxswain/api"
	"coxswain/raft"
)

// P9.2: the first draw sets the end, from TickElect on; a draw below 0 is counted from -1 on.
func TestDraws(t *testing.T) {
	ends := map[int]int{0: 10, 1: 11, 9: 19, 10: 10, 25: 15, -1: 10, -2: 11, -10: 19, -11: 10, math.MaxInt: 17, math.MaxInt - 7: 10, math.MinInt: 17, math.MinInt + 7: 10}
	for draw, end := range ends {
		standsAt(t, fresh(t, 1, voters(1, 2, 3)), end, draw)
		r := fresh(t, 1, voters(1, 2, 3))
		r.Tick(draw)
		standsAt(t, r, end-1, draw+1)
	}
}

// P9.2: later draws of a wait say nothing; the next wait has a draw of its own.
func TestOneDrawAWait(t *testing.T) {
	r := fresh(t, 1, voters(1, 2, 3))
	r.Tick(3)
	standsAt(t, r, 12, 9)
	r.Tick(9)
	standsAt(t, r, 18, 0)
	standsAt(t, r, 10, 0)
}

// P9.2: who stands has a Term more and its own vote, knows no leader, and asks each other voter, telling its last entry.
func TestStand(t *testing.T) {
	r := having(t, 1, servers([]int{1, 3, 5}, []int{2}), entries(1, 1, 4, 6)...)
	r.Step(api.Msg{Kind: api.MsgAppend, From: 3, To: 1, Term: 8, Index: 3, LogTerm: 6, Commit: 2})
	for term := 9; term < 12; term++ {
		o := standsAt(t, r, 10, 0)
		want(t, "standing", o, raft.Out{Save: true, Hard: api.Hard{Term: term, Vote: 1}, Msgs: []api.Msg{
			{Kind: api.MsgVote, From: 1, To: 3, Term: term, Index: 3, LogTerm: 6},
			{Kind: api.MsgVote, From: 1, To: 5, Term: term, Index: 3, LogTerm: 6},
		}})
		wantStatus(t, r, raft.Status{Role: raft.Candidate, Hard: api.Hard{Term: term, Vote: 1}, Commit: 2, Last: 3, Conf: servers([]int{1, 3, 5}, []int{2})})
	}
}

// P9.2: behind a snapshot without entries it tells the snapshot's index and term.
func TestStandBehindASnapshot(t *testing.T) {
	s := full()
	s.Entries, s.Snapshot.Conf = nil, voters(1, 2)
	o := standsAt(t, opened(t, 1, voters(3), s), 10, 0)
	want(t, "standing", o, raft.Out{Save: true, Hard: api.Hard{Term: 5, Vote: 1}, Msgs: []api.Msg{{Kind: api.MsgVote, From: 1, To: 2, Term: 5, Index: 6, LogTerm: 2}}})
}

// P9.2: who is no voter never stands; nor does a voter whose Term is MaxNumber.
func TestWhoDoesNotStand(t *testing.T) {
	quiet := func(r *raft.Raft) {
		t.Helper()
		was := r.Status()
		for i := range 100 {
			want(t, fmt.Sprintf("tick %d of one that does not stand", i), r.Tick(i), raft.Out{})
		}
		wantStatus(t, r, was)
	}
	quiet(fresh(t, 1, voters(2, 3)))
	quiet(fresh(t, 1, servers([]int{2}, []int{1})))
	quiet(having(t, 1, voters(1), confEntry(1, 1, voters(2))))
	quiet(opened(t, 1, voters(1, 2), api.Saved{Hard: api.Hard{Term: most}}))
	quiet(opened(t, 1, voters(1), api.Saved{Hard: api.Hard{Term: most, Vote: 1}}))
	r := opened(t, 1, voters(1, 2), api.Saved{Hard: api.Hard{Term: most - 1}})
	standsAt(t, r, 10, 0)
	quiet(r)
}

// P9.2: who was no voter stands at the end of the wait in which the entry came that makes it one.
func TestWhoBecomesAVoter(t *testing.T) {
	r := fresh(t, 1, servers([]int{2}, []int{1}))
	for range 14 {
		r.Tick(7)
	}
	r.Step(api.Msg{Kind: api.MsgAppend, From: 2, To: 1, Term: 1, Entries: []api.Entry{confEntry(1, 1, voters(1, 2))}})
	standsAt(t, r, 15, 5)
}

// P9.2 and P9.3: a voter that is a majority alone leads at once, and has committed all.
func TestAlone(t *testing.T) {
	o := standsAt(t, fresh(t, 1, voters(1)), 10, 0)
	want(t, "alone", o, raft.Out{Save: true, Hard: api.Hard{Term: 1, Vote: 1}, Entries: []api.Entry{nop(1, 1)}, Commits: []api.Entry{nop(1, 1)}})

	// With learners: they are sent what they lack ahead of its being committed.
	list := entries(1, 1, 1)
	r := having(t, 1, servers([]int{1}, []int{2, 4}), list...)
	o = standsAt(t, r, 10, 0)
	all := append(list, nop(3, 2))
	want(t, "alone with learners", o, raft.Out{Save: true, Hard: api.Hard{Term: 2, Vote: 1}, Entries: all[2:], Commits: all, Msgs: []api.Msg{
		{Kind: api.MsgAppend, From: 1, To: 2, Term: 2, Index: 2, LogTerm: 1, Entries: all[2:]},
		{Kind: api.MsgAppend, From: 1, To: 4, Term: 2, Index: 2, LogTerm: 1, Entries: all[2:]},
	}})
	wantStatus(t, r, raft.Status{Role: raft.Leader, Leader: 1, Hard: api.Hard{Term: 2, Vote: 1}, Commit: 3, Last: 3, Conf: servers([]int{1}, []int{2, 4})})
}

// P9.3: a log that takes no more: it leads without an entry of its own, and nothing is committed.
func TestLeadsWithAFullLog(t *testing.T) {
	s := api.Saved{Hard: api.Hard{Term: 3}, Snapshot: api.Snapshot{Index: most - 1, Term: 2, Conf: servers([]int{1}, []int{2}), Data: []byte("s")}, Entries: entries(most, 3)}
	r := opened(t, 1, voters(1), s)
	want(t, "leading", standsAt(t, r, 10, 0), raft.Out{Save: true, Hard: api.Hard{Term: 4, Vote: 1}, Msgs: []api.Msg{
		{Kind: api.MsgAppend, From: 1, To: 2, Term: 4, Index: most, LogTerm: 3, Commit: most - 1},
	}})
	wantStatus(t, r, raft.Status{Role: raft.Leader, Leader: 1, Hard: api.Hard{Term: 4, Vote: 1}, Commit: most - 1, Last: most, Base: most - 1, Conf: servers([]int{1}, []int{2})})
	want(t, "an answer", acked(r, 2, most), raft.Out{})
	refusesProposal(t, r, command(1), api.ErrFull)
	refusesProposal(t, r, toConf(voters(1)), api.ErrBusy)
}

// P9.3: the entry that has the greatest index is taken, and is the last one.
func TestLeadsWithTheLastEntry(t *testing.T) {
	s := api.Saved{Hard: api.Hard{Term: 3}, Snapshot: api.Snapshot{Index: most - 1, Term: 2, Conf: voters(1), Data: []byte("s")}}
	r := opened(t, 1, voters(1), s)
	list := []api.Entry{nop(most, 4)}
	want(t, "leading", standsAt(t, r, 10, 0), raft.Out{Save: true, Hard: api.Hard{Term: 4, Vote: 1}, Entries: list, Commits: list})
	refusesProposal(t, r, command(1), api.ErrFull)
	refusesProposal(t, r, toConf(voters(1)), api.ErrFull)
}

// P9.2: a leader sends at each TickBeat-th tick, counted from when it sent last; what it is asked meanwhile does not count.
func TestBeats(t *testing.T) {
	r := fresh(t, 1, servers([]int{1, 3}, []int{2}))
	candidate(t, r)
	for range 5 {
		r.Tick(0) // a candidate's ticks are none of a leader's
	}
	r.Step(to(r, api.Msg{Kind: api.MsgVoted, From: 3}))
	beat := func(index int, list ...api.Entry) raft.Out {
		m := api.Msg{Kind: api.MsgAppend, From: 1, Term: 1, Index: index, LogTerm: index, Entries: list, Commit: index}
		a, b := m, m
		a.To, b.To = 2, 3
		return raft.Out{Msgs: []api.Msg{a, b}}
	}
	for range 3 {
		want(t, "a tick ahead of a beat", r.Tick(0), raft.Out{})
		want(t, "a beat", r.Tick(0), beat(0, nop(1, 1)))
	}
	r.Tick(0)
	acked(r, 3, 1)
	acked(r, 2, 1)
	want(t, "an empty beat", r.Tick(9), beat(1))
	want(t, "a tick ahead of a beat", r.Tick(9), raft.Out{})
	if e, o := r.Read(1); e != api.OK || len(o.Msgs) != 2 {
		t.Fatalf("Read: %d, %s", e, short(o))
	}
	o := beat(1)
	o.Msgs[0].Ctx, o.Msgs[1].Ctx = 1, 1
	want(t, "a beat behind a read", r.Tick(9), o)
}

// P9.2: a leader sends to who is a member now: not to who has gone, and to who has come.
func TestBeatsGoToMembers(t *testing.T) {
	r := fresh(t, 1, voters(1, 2, 3))
	leads(t, r, 2)
	acked(r, 2, 1)
	proposed(t, r, toConf(servers([]int{1, 2}, []int{4})))
	r.Tick(0)
	o := r.Tick(0)
	if len(o.Msgs) != 2 || o.Msgs[0].To != 2 || o.Msgs[1].To != 4 || o.Msgs[1].Index != 0 || len(o.Msgs[1].Entries) != 2 {
		t.Fatalf("a beat: %s", short(o))
	}
}

// begins asks that a call begins a wait: behind it the next draw counts, and from 0.
func begins(t *testing.T, what string, r *raft.Raft, call func(r *raft.Raft)) {
	t.Helper()
	for range 5 {
		r.Tick(4)
	}
	call(r)
	t.Run(what, func(t *testing.T) {
		r.Tick(6)
		standsAt(t, r, 15, 0)
	})
}

// beginsNone asks that a call begins no wait: five ticks of the fourteen are over.
func beginsNone(t *testing.T, what string, r *raft.Raft, call func(r *raft.Raft)) {
	t.Helper()
	for range 5 {
		r.Tick(4)
	}
	call(r)
	t.Run(what, func(t *testing.T) {
		r.Tick(6)
		standsAt(t, r, 8, 0)
	})
}

// The word 'a wait': what begins one.
func TestWhatBeginsAWait(t *testing.T) {
	old := func() *raft.Raft {
		return opened(t, 1, voters(1, 2, 3), api.Saved{Hard: api.Hard{Term: 5}, Snapshot: api.Snapshot{Index: 3, Term: 2, Conf: voters(1, 2, 3), Data: []byte("s")}, Entries: entries(4, 3, 5)})
	}
	step := func(m api.Msg) func(r *raft.Raft) {
		return func(r *raft.Raft) { r.Step(to(r, m)) }
	}
	begins(t, "an append", old(), step(api.Msg{Kind: api.MsgAppend, From: 2, Index: 5, LogTerm: 5}))
	begins(t, "an append of a higher term", old(), step(api.Msg{Kind: api.MsgAppend, From: 2, Index: 5, LogTerm: 5, Term: 6}))
	begins(t, "an append that is refused", old(), step(api.Msg{Kind: api.MsgAppend, From: 2, Index: 9, LogTerm: 5}))
	begins(t, "an append below what is committed", old(), step(api.Msg{Kind: api.MsgAppend, From: 2, Index: 1, LogTerm: 1}))
	begins(t, "a piece", old(), step(api.Msg{Kind: api.MsgSnap, From: 2, Index: 9, LogTerm: 5, Total: 2, Data: []byte("a"), Conf: voters(1, 2, 3)}))
	begins(t, "a piece that is not taken", old(), step(api.Msg{Kind: api.MsgSnap, From: 2, Index: 9, LogTerm: 5, Total: 2, Offset: 1}))
	begins(t, "a piece of what is committed", old(), step(api.Msg{Kind: api.MsgSnap, From: 2, Index: 3, LogTerm: 2, Total: 2}))
	begins(t, "a whole snapshot", old(), step(api.Msg{Kind: api.MsgSnap, From: 2, Index: 9, LogTerm: 5, Total: 1, Data: []byte("a"), Conf: voters(1, 2, 3)}))
	begins(t, "a vote", old(), step(api.Msg{Kind: api.MsgVote, From: 2, Index: 5, LogTerm: 5}))
	begins(t, "a vote in a higher term", old(), step(api.Msg{Kind: api.MsgVote, From: 2, Index: 5, LogTerm: 5, Term: 9}))
	begins(t, "a vote that is given again", old(), func(r *raft.Raft) {
		step(api.Msg{Kind: api.MsgVote, From: 2, Index: 5, LogTerm: 5})(r)
		for range 5 {
			r.Tick(4)
		}
		step(api.Msg{Kind: api.MsgVote, From: 2, Index: 5, LogTerm: 5})(r)
	})
	stands := func() *raft.Raft {
		r := old()
		candidate(t, r)
		return r
	}
	begins(t, "an append to one that stands", stands(), step(api.Msg{Kind: api.MsgAppend, From: 2, Index: 5, LogTerm: 5}))
	begins(t, "a piece to one that stands", stands(), step(api.Msg{Kind: api.MsgSnap, From: 2, Index: 9, LogTerm: 5, Total: 2, Data: []byte("a")}))
	begins(t, "a vote of one that stands", stands(), step(api.Msg{Kind: api.MsgVote, From: 2, Index: 5, LogTerm: 5, Term: 9}))
	begins(t, "standing", old(), func(r *raft.Raft) { candidate(t, r) })
}

// The word 'a wait': what begins none.
func TestWhatBeginsNoWait(t *testing.T) {
	old := func() *raft.Raft {
		return opened(t, 1, voters(1, 2, 3), api.Saved{Hard: api.Hard{Term: 5}, Entries: entries(1, 3, 5)})
	}
	step := func(m api.Msg) func(r *raft.Raft) {
		return func(r *raft.Raft) { r.Step(to(r, m)) }
	}
	beginsNone(t, "nothing", old(), func(r *raft.Raft) {})
	for kind := api.MsgVote; kind <= api.MsgSnapped; kind++ {
		what := fmt.Sprintf("kind %d ", kind)
		beginsNone(t, what+"of a lower term", old(), step(api.Msg{Kind: kind, From: 2, Term: 4}))
		beginsNone(t, what+"for another one", old(), step(api.Msg{Kind: kind, From: 2, To: 3, Term: 9}))
		if kind == api.MsgAppend || kind == api.MsgSnap {
			continue
		}
		beginsNone(t, what+"of the term", old(), step(api.Msg{Kind: kind, From: 2, Reject: true}))
		beginsNone(t, what+"of a higher term", old(), step(api.Msg{Kind: kind, From: 2, Term: 9}))
		r := old()
		candidate(t, r)
		beginsNone(t, what+"of a higher term to one that stands", r, step(api.Msg{Kind: kind, From: 2, Term: 9}))
		r = old()
		candidate(t, r)
		beginsNone(t, what+"of the term to one that stands", r, step(api.Msg{Kind: kind, From: 2, Reject: true}))
	}
	beginsNone(t, "Propose", old(), func(r *raft.Raft) { r.Propose(command(1)) })
	beginsNone(t, "Read", old(), func(r *raft.Raft) { r.Read(1) })
	beginsNone(t, "Compact", old(), func(r *raft.Raft) { r.Compact(1, []byte("a")) })
	beginsNone(t, "Status", old(), func(r *raft.Raft) { r.Status() })
}

// The word 'a wait': a leader that follows a higher Term goes on with its count, and with the end that was set since it stood.
func TestALeaderThatFollows(t *testing.T) {
	for beats := range 4 {
		for _, waited := range []int{0, 1, 3} {
			r := fresh(t, 1, voters(1, 2, 3))
			candidate(t, r)
			draws := []int{5, 7, 2, 9, 1, 8, 6}
			for i := range waited {
				r.Tick(draws[i])
			}
			r.Step(to(r, api.Msg{Kind: api.MsgVoted, From: 2}))
			for i := range beats {
				r.Tick(draws[waited+i])
			}
			r.Step(api.Msg{Kind: api.MsgVoted, From: 3, To: 1, Term: 7})
			if s := r.Status(); s.Role != raft.Follower || s.Leader != 0 || s.Hard != (api.Hard{Term: 7}) {
				t.Fatalf("it does not follow: %+v", s)
			}
			// The first draw since it stood sets the end, whoever it was then.
			end := api.TickElect + draws[0]
			standsAt(t, r, end-beats%2, draws[waited+beats])
		}
	}
}
