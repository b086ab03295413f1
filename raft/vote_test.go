package raft_test

import (
	"fmt"
	"math"
	"testing"

	"coxswain/api"
	"coxswain/raft"
)

// roles are servers 1 of voters 1 to 3 and learner 4 in each role, alike but for that: Term 5, the log 1 (1), 2 (3), 3 (3) or longer, of which 1 is committed.
func roles(t *testing.T) map[string]*raft.Raft {
	t.Helper()
	c := servers([]int{1, 2, 3}, []int{4})
	made := func() *raft.Raft {
		r := opened(t, 1, c, api.Saved{Hard: api.Hard{Term: 4}, Snapshot: api.Snapshot{Index: 1, Term: 1, Conf: c, Data: []byte("s")}, Entries: entries(2, 3, 3)})
		return r
	}
	follower, candidate1, leader := made(), made(), made()
	follower.Step(api.Msg{Kind: api.MsgAppended, From: 2, To: 1, Term: 5})
	candidate(t, candidate1)
	leads(t, leader, 3)
	return map[string]*raft.Raft{"follower": follower, "candidate": candidate1, "leader": leader}
}

// P9.5: messages that are for nobody or from nobody, or can't be, do nothing, of each Kind in each role.
func TestStepOfWhatIsNone(t *testing.T) {
	for role, r := range roles(t) {
		was := r.Status()
		nothing := func(what string, m api.Msg) {
			t.Helper()
			want(t, fmt.Sprintf("%s to a %s: %s", what, role, shortMsg(m)), r.Step(m), raft.Out{})
			wantStatus(t, r, was)
		}
		for kind := api.MsgVote; kind <= api.MsgSnapped; kind++ {
			for _, term := range []int{4, 5, 9} {
				m := api.Msg{Kind: kind, From: 2, To: 1, Term: term, Index: 3, LogTerm: 3, Total: 1, Data: []byte("s"), Conf: voters(1, 2)}
				for _, far := range append(farNumbers(), 0, 6, 101) {
					x := m
					x.From = far
					nothing("from nobody", x)
				}
				for _, far := range append(farNumbers(), 0, 2, 3, 6) {
					x := m
					x.To = far
					nothing("for another one", x)
				}
				x := m
				x.From = 1
				nothing("from itself", x)
				x = m
				x.LogTerm = term + 1
				nothing("a LogTerm above its Term", x)
				x = m
				x.Entries = entries(4, 3, term+1)
				nothing("a last entry's term above its Term", x)
				x.LogTerm, x.Entries = math.MaxInt, nil
				nothing("the greatest LogTerm", x)
			}
			for _, far := range append(farNumbers(), 0) {
				nothing("a Term that is none", api.Msg{Kind: kind, From: 2, To: 1, Term: far, LogTerm: math.MinInt})
			}
		}
		for _, kind := range append(farNumbers(), 0, api.MsgForward, api.MsgForwarded, api.MsgBeat, api.MsgBeaten, 11) {
			nothing("no such Kind", api.Msg{Kind: kind, From: 2, To: 1, Term: 9, Index: 3, LogTerm: 3})
			nothing("no such Kind", api.Msg{Kind: kind, From: 2, To: 1, Term: 5, Index: 3, LogTerm: 3})
		}
	}
}

// P9.5: the greatest Term is taken, and a LogTerm and a last entry's term that are its own.
func TestStepOfTheGreatestTerm(t *testing.T) {
	r := fresh(t, 1, voters(1, 2, 3))
	list := entries(1, 1, most)
	want(t, "an append", r.Step(api.Msg{Kind: api.MsgAppend, From: 3, To: 1, Term: most, Entries: list}), raft.Out{Save: true, Hard: api.Hard{Term: most}, Entries: list, Msgs: []api.Msg{
		{Kind: api.MsgAppended, From: 1, To: 3, Term: most, Index: 2},
	}})
	want(t, "a vote", r.Step(api.Msg{Kind: api.MsgVote, From: 2, To: 1, Term: most, Index: 2, LogTerm: most}), raft.Out{Save: true, Hard: api.Hard{Term: most, Vote: 2}, Msgs: []api.Msg{
		{Kind: api.MsgVoted, From: 1, To: 2, Term: most},
	}})
}

// P9.5: a higher Term is followed, whatever the Kind and the role: no Vote, no leader known; the message is taken in that Term.
func TestStepOfAHigherTerm(t *testing.T) {
	for kind := api.MsgVote; kind <= api.MsgSnapped; kind++ {
		for role, r := range roles(t) {
			r.Step(api.Msg{Kind: api.MsgAppend, From: 3, To: 1, Term: 5, Index: 3, LogTerm: 3}) // a follower knows its leader
			last := r.Status().Last
			o := r.Step(api.Msg{Kind: kind, From: 2, To: 1, Term: 7, Index: 0, Reject: true})
			wanted := raft.Out{Save: true, Hard: api.Hard{Term: 7}}
			leader := 0
			switch kind {
			case api.MsgVote:
				wanted.Msgs = []api.Msg{{Kind: api.MsgVoted, From: 1, To: 2, Term: 7, Reject: true}}
			case api.MsgAppend:
				leader = 2
				wanted.Msgs = []api.Msg{{Kind: api.MsgAppended, From: 1, To: 2, Term: 7, Index: 1}}
			case api.MsgSnap:
				leader = 2
				wanted.Msgs = []api.Msg{{Kind: api.MsgSnapped, From: 1, To: 2, Term: 7, Index: 1}}
			}
			want(t, fmt.Sprintf("kind %d of a higher term to a %s", kind, role), o, wanted)
			wantStatus(t, r, raft.Status{Leader: leader, Hard: api.Hard{Term: 7}, Commit: 1, Last: last, Base: 1, Conf: servers([]int{1, 2, 3}, []int{4})})
		}
	}
}

// P9.5: a lower term: three Kinds are answered, with the own Term and without Ctx; nothing changes, in no role.
func TestStepOfALowerTerm(t *testing.T) {
	for role, r := range roles(t) {
		was := r.Status()
		for kind := api.MsgVote; kind <= api.MsgSnapped; kind++ {
			for term := 1; term <= 4; term++ {
				o := r.Step(api.Msg{Kind: kind, From: 3, To: 1, Term: term, Index: 8, LogTerm: term, Entries: entries(9, term), Commit: 9, Ctx: 6, Total: 1, Data: []byte("s"), Conf: voters(1)})
				var wanted raft.Out
				switch kind {
				case api.MsgVote:
					wanted.Msgs = []api.Msg{{Kind: api.MsgVoted, From: 1, To: 3, Term: 5, Reject: true}}
				case api.MsgAppend:
					wanted.Msgs = []api.Msg{{Kind: api.MsgAppended, From: 1, To: 3, Term: 5, Reject: true, Index: was.Last}}
				case api.MsgSnap:
					wanted.Msgs = []api.Msg{{Kind: api.MsgSnapped, From: 1, To: 3, Term: 5, Reject: true, Index: 8, Total: 1}}
				}
				want(t, fmt.Sprintf("kind %d of a lower term to a %s", kind, role), o, wanted)
				wantStatus(t, r, was)
			}
		}
	}
}

// voted asks for a vote, and whether it is given.
func voted(t *testing.T, r *raft.Raft, m api.Msg, given, save bool) {
	t.Helper()
	m.Kind = api.MsgVote
	m = to(r, m)
	wanted := raft.Out{Msgs: []api.Msg{{Kind: api.MsgVoted, From: 1, To: m.From, Term: m.Term, Reject: !given}}}
	if save {
		wanted.Save, wanted.Hard = true, api.Hard{Term: m.Term}
		if given {
			wanted.Hard.Vote = m.From
		}
	}
	want(t, "MsgVote "+shortMsg(m), r.Step(m), wanted)
}

// P9.5 MsgVote: one vote a term, given again to the same one, to no other one; another term has another vote.
func TestVote(t *testing.T) {
	r := fresh(t, 1, voters(1, 2, 3))
	voted(t, r, api.Msg{From: 2, Term: 1}, true, true)
	voted(t, r, api.Msg{From: 2}, true, false)
	voted(t, r, api.Msg{From: 3}, false, false)
	voted(t, r, api.Msg{From: 2}, true, false)
	voted(t, r, api.Msg{From: 3, Term: 2}, true, true)
	voted(t, r, api.Msg{From: 2}, false, false)
	if s := r.Status(); s.Hard != (api.Hard{Term: 2, Vote: 3}) || s.Leader != 0 || s.Role != raft.Follower {
		t.Fatalf("Status: %+v", s)
	}
}

// P9.5 MsgVote: a saved vote is kept, also one for itself, or for who is no server.
func TestVoteThatWasSaved(t *testing.T) {
	for _, vote := range []int{1, 3, 6, most} {
		r := opened(t, 1, voters(1, 2, 3), api.Saved{Hard: api.Hard{Term: 5, Vote: vote}})
		voted(t, r, api.Msg{From: 2}, false, false)
		voted(t, r, api.Msg{From: 3}, vote == 3, false)
	}
}

// P9.5 MsgVote: only to a log that is not older, and without a vote that was not given being saved.
func TestVoteForALog(t *testing.T) {
	for _, x := range []struct {
		index, term int
		given       bool
	}{
		{3, 3, true}, {4, 3, true}, {2, 3, false}, {9, 2, false}, {0, 0, false}, {1, 4, true}, {0, 4, true}, {-1, 4, true}, {-1, 3, false}, {9, -1, false},
		{math.MinInt, 5, true}, {math.MaxInt, 3, true}, {math.MaxInt, 2, false}, {math.MaxInt, math.MinInt, false}, {math.MinInt, math.MinInt, false},
	} {
		r := opened(t, 1, voters(1, 2, 3), api.Saved{Hard: api.Hard{Term: 5}, Entries: entries(1, 1, 3, 3)})
		voted(t, r, api.Msg{From: 2, Index: x.index, LogTerm: x.term}, x.given, x.given)
		r = opened(t, 1, voters(1, 2, 3), api.Saved{Hard: api.Hard{Term: 4}, Entries: entries(1, 1, 3, 3)})
		voted(t, r, api.Msg{From: 2, Index: x.index, LogTerm: x.term, Term: 5}, x.given, true)
		if !x.given {
			voted(t, r, api.Msg{From: 3, Index: 3, LogTerm: 3}, true, true)
		}
	}
}

// P9.5 MsgVote: who stands or leads gives none in its term; a learner, and to who is no member, does.
func TestVoteOfEachRole(t *testing.T) {
	all := roles(t)
	voted(t, all["follower"], api.Msg{From: 5, Index: 3, LogTerm: 3}, true, true)
	for _, role := range []string{"candidate", "leader"} {
		voted(t, all[role], api.Msg{From: 2, Index: 9, LogTerm: 5}, false, false)
		voted(t, all[role], api.Msg{From: 2, Index: 9, LogTerm: 5, Term: 6}, true, true)
		if s := all[role].Status(); s.Role != raft.Follower || s.Leader != 0 {
			t.Fatalf("a %s that gave its vote: %+v", role, s)
		}
	}
	voted(t, fresh(t, 1, servers([]int{2}, []int{1})), api.Msg{From: 2, Term: 1}, true, true)
	voted(t, fresh(t, 1, voters(2)), api.Msg{From: 2, Term: 1}, true, true)
}

// P9.5 MsgVoted: a majority of votes of voters, each once; rejections, learners, strangers and other terms don't count.
func TestVoted(t *testing.T) {
	r := fresh(t, 1, servers([]int{1, 2, 3, 4}, []int{5}))
	candidate(t, r)
	silent := func(m api.Msg) {
		t.Helper()
		m.Kind = api.MsgVoted
		want(t, "MsgVoted", r.Step(to(r, m)), raft.Out{})
		if s := r.Status(); s.Role != raft.Candidate {
			t.Fatalf("behind %s: %+v", shortMsg(m), s)
		}
	}
	silent(api.Msg{From: 5})
	silent(api.Msg{From: 2})
	silent(api.Msg{From: 2})
	silent(api.Msg{From: 3, Reject: true})
	silent(api.Msg{From: 5})
	o := r.Step(to(r, api.Msg{Kind: api.MsgVoted, From: 4}))
	if s := r.Status(); s.Role != raft.Leader || s.Leader != 1 || len(o.Msgs) != 4 {
		t.Fatalf("three votes of four: %+v, %s", s, short(o))
	}
	want(t, "a vote for one that leads", r.Step(to(r, api.Msg{Kind: api.MsgVoted, From: 3})), raft.Out{})
}

// P9.5 MsgVoted: votes are of one term: those of the term ahead are forgotten when it stands again.
func TestVotesAreOfATerm(t *testing.T) {
	r := fresh(t, 1, voters(1, 2, 3, 4, 5))
	candidate(t, r)
	r.Step(to(r, api.Msg{Kind: api.MsgVoted, From: 2}))
	standsAt(t, r, 10, 0)
	want(t, "a late vote", r.Step(api.Msg{Kind: api.MsgVoted, From: 3, To: 1, Term: 1}), raft.Out{})
	want(t, "a vote", r.Step(to(r, api.Msg{Kind: api.MsgVoted, From: 4})), raft.Out{})
	if s := r.Status(); s.Role != raft.Candidate {
		t.Fatalf("two votes of five: %+v", s)
	}
	r.Step(to(r, api.Msg{Kind: api.MsgVoted, From: 3}))
	if s := r.Status(); s.Role != raft.Leader {
		t.Fatalf("three votes of five: %+v", s)
	}
}

// P9.5 MsgVoted: nobody but who stands counts votes.
func TestVotedOfEachRole(t *testing.T) {
	for role, r := range roles(t) {
		if role == "candidate" {
			continue
		}
		was := r.Status()
		for _, from := range []int{2, 3, 4, 5} {
			want(t, "MsgVoted to a "+role, r.Step(to(r, api.Msg{Kind: api.MsgVoted, From: from})), raft.Out{})
			wantStatus(t, r, was)
		}
	}
}

// P9.3: with an even number of voters half of them are none; the first entry of its own stands behind what there was.
func TestLeadsWithWhatThereIs(t *testing.T) {
	r := having(t, 1, voters(1, 2), entries(1, 1, 1)...)
	if candidate(t, r); r.Status().Role != raft.Candidate {
		t.Fatal("one of two is no majority")
	}
	list := []api.Entry{nop(3, 2)}
	want(t, "leading", r.Step(to(r, api.Msg{Kind: api.MsgVoted, From: 2})), raft.Out{Save: true, Hard: api.Hard{Term: 2, Vote: 1}, Entries: list, Msgs: []api.Msg{
		{Kind: api.MsgAppend, From: 1, To: 2, Term: 2, Index: 2, LogTerm: 1, Entries: list},
	}})
}
