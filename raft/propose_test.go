package raft_test

import (
	"fmt"
	"math"
	"testing"

	"coxswain/api"
	"coxswain/raft"
)

// P9.6: each kind of command is refused by who doesn't lead, ahead of all else.
func TestProposeToEachRole(t *testing.T) {
	for role, r := range roles(t) {
		if role == "leader" {
			continue
		}
		for op := -1; op <= api.CmdRevert+1; op++ {
			refusesProposal(t, r, api.Cmd{Op: op}, api.ErrLeader)
		}
		refusesProposal(t, r, toConf(voters(1, 2)), api.ErrLeader)
	}
}

// P9.6: a leader takes each kind but CmdNop, also ones that there are not: these are refused when they are applied.
func TestProposeOfEachKind(t *testing.T) {
	ops := []int{0, -1, math.MinInt, api.CmdRevert + 1, math.MaxInt}
	for op := api.CmdSubmit; op <= api.CmdRevert; op++ {
		ops = append(ops, op)
	}
	for _, op := range ops {
		r := long(t)
		c := command(5)
		c.Op = op
		x, o := proposed(t, r, c)
		if !alike(x, api.Entry{Index: 22, Term: 3, Cmd: c}) {
			t.Errorf("Propose of op %d: %v", op, x)
		}
		want(t, fmt.Sprintf("op %d", op), o, raft.Out{Save: true, Hard: api.Hard{Term: 3, Vote: 1}, Entries: []api.Entry{x}})
		if s := r.Status(); s.Last != 22 || s.Commit != 0 || !alike(s.Conf, servers([]int{1, 2, 3}, []int{4})) {
			t.Errorf("Status: %+v", s)
		}
	}
	r := long(t)
	refusesProposal(t, r, api.Cmd{Op: api.CmdNop}, api.ErrArg)
	refusesProposal(t, r, api.Cmd{Op: api.CmdNop, Conf: voters(1, 2)}, api.ErrArg)
}

// P9.6: the entry is sent to each member that has all ahead of it, not to others; once.
func TestProposeIsSent(t *testing.T) {
	r := long(t)
	_, o := proposed(t, r, command(1))
	wantMsgs(t, "nobody has answered yet", o)
	acked(r, 2, 21)
	acked(r, 4, 22)
	x, o := proposed(t, r, command(2))
	wantMsgs(t, "the learner has all", o, api.Msg{Kind: api.MsgAppend, From: 1, To: 4, Term: 3, Index: 22, LogTerm: 3, Entries: []api.Entry{x}, Commit: 21})
	_, o = proposed(t, r, command(3))
	wantMsgs(t, "nobody has the one ahead", o)
	acked(r, 4, 24)
	acked(r, 2, 24)
	acked(r, 3, 23)
	x, o = proposed(t, r, command(4))
	m := api.Msg{Kind: api.MsgAppend, From: 1, Term: 3, Index: 24, LogTerm: 3, Entries: []api.Entry{x}, Commit: 24}
	a, b := m, m
	a.To, b.To = 2, 4
	wantMsgs(t, "two have all", o, a, b)
}

// P9.6: who is a majority alone commits at once, behind its being sent.
func TestProposeAlone(t *testing.T) {
	r := fresh(t, 1, servers([]int{1}, []int{2}))
	leads(t, r)
	acked(r, 2, 1)
	x, o := proposed(t, r, command(1))
	list := []api.Entry{x}
	want(t, "Propose", o, raft.Out{Save: true, Hard: api.Hard{Term: 1, Vote: 1}, Entries: list, Commits: list, Msgs: []api.Msg{
		{Kind: api.MsgAppend, From: 1, To: 2, Term: 1, Index: 1, LogTerm: 1, Entries: list, Commit: 1},
	}})
}

// leader3 is a leader of voters 1 to 3 that has committed its own first entry.
func leader3(t *testing.T) *raft.Raft {
	t.Helper()
	r := fresh(t, 1, voters(1, 2, 3))
	leads(t, r, 2)
	acked(r, 2, 1)
	return r
}

// P9.6: ErrBusy ahead of an entry of the own term, whatever else was committed, and whatever is asked.
func TestConfAheadOfAnEntryOfTheTerm(t *testing.T) {
	r := long(t)
	refusesProposal(t, r, toConf(voters(1, 2, 3)), api.ErrBusy)
	acked(r, 2, 20)
	acked(r, 3, 20)
	refusesProposal(t, r, toConf(voters(1)), api.ErrBusy)
	acked(r, 3, 21)
	proposed(t, r, toConf(voters(1, 2)))

	r = leader3(t)
	r.Step(api.Msg{Kind: api.MsgAppend, From: 2, To: 1, Term: 2, Index: 1, LogTerm: 1, Commit: 1})
	leads(t, r, 2)
	refusesProposal(t, r, toConf(voters(1, 2)), api.ErrBusy)
}

// P9.6: ErrBusy while a CmdConf is not committed, ahead of ErrServers; not when it is, also in a snapshot.
func TestConfOneByOne(t *testing.T) {
	r := leader3(t)
	proposed(t, r, toConf(servers([]int{1, 2, 3}, []int{4})))
	refusesProposal(t, r, toConf(servers([]int{1, 2, 3}, []int{4})), api.ErrBusy)
	refusesProposal(t, r, toConf(api.Conf{}), api.ErrBusy)
	proposed(t, r, command(1))
	refusesProposal(t, r, toConf(voters(1, 2)), api.ErrBusy)
	acked(r, 3, 2)
	refusesProposal(t, r, toConf(voters(1)), api.ErrServers)
	proposed(t, r, toConf(voters(1, 2, 3, 4)))
	acked(r, 3, 4)
	refusesProposal(t, r, toConf(voters(1, 2, 3, 4, 5)), api.ErrBusy)
	acked(r, 4, 4)
	compacted(t, r, 4, []byte("s"))
	proposed(t, r, toConf(voters(1, 2, 3, 4, 5)))
}

// P9.6: a CmdConf that another leader left, and that is not committed, is one too.
func TestConfOfAnotherLeader(t *testing.T) {
	r := having(t, 1, voters(1, 2, 3), entry(1, 1), confEntry(2, 1, voters(1, 2)))
	leads(t, r, 2)
	refusesProposal(t, r, toConf(voters(1, 2)), api.ErrBusy)
	acked(r, 2, 3)
	if s := r.Status(); s.Commit != 3 {
		t.Fatalf("Status: %+v", s)
	}
	proposed(t, r, toConf(voters(1, 2, 5)))
}

// P9.6: servers that differ by more than one voter, or that may not be, are refused.
func TestConfOfMoreThanOne(t *testing.T) {
	for _, c := range []api.Conf{{}, voters(1), voters(1, 2, 4), voters(1, 2, 3, 4, 5), voters(4), voters(1, 2, 2), voters(2, 1, 3), voters(1, 2, 3, 6), servers(nil, []int{1, 2, 3}), servers([]int{1, 2, 3}, []int{3}), servers([]int{1, 2}, []int{5, 4})} {
		refusesProposal(t, leader3(t), toConf(c), api.ErrServers)
	}
	for _, c := range []api.Conf{voters(1, 2, 3), voters(1, 2), voters(1, 3), voters(2, 3), voters(1, 2, 3, 4), voters(1, 2, 3, 5), servers([]int{1, 2}, []int{3, 4, 5}), servers([]int{1, 2, 3}, []int{4, 5})} {
		r := leader3(t)
		_, o := proposed(t, r, toConf(c))
		if s := r.Status(); !alike(s.Conf, c) || len(o.Commits) != 0 {
			t.Errorf("CmdConf %v: %+v, %s", c, s, short(o))
		}
	}
}

// P9.6: the new servers count from the entry on: who is not among them is not sent it, nor heard; a majority is one of theirs.
func TestConfCountsAtOnce(t *testing.T) {
	r := leader3(t)
	acked(r, 3, 1)
	x, o := proposed(t, r, toConf(servers([]int{1, 2}, []int{4})))
	wantMsgs(t, "a CmdConf without 3", o, api.Msg{Kind: api.MsgAppend, From: 1, To: 2, Term: 1, Index: 1, LogTerm: 1, Entries: []api.Entry{x}, Commit: 1})
	want(t, "who has gone", acked(r, 3, 2), raft.Out{})
	want(t, "who has come, as a learner", acked(r, 4, 2), raft.Out{})
	want(t, "who stays", acked(r, 2, 2), raft.Out{Commits: []api.Entry{x}})

	// With a fourth voter two are no majority any more.
	r = leader3(t)
	x, _ = proposed(t, r, toConf(voters(1, 2, 3, 4)))
	want(t, "two of four", acked(r, 2, 2), raft.Out{})
	want(t, "three of four", acked(r, 4, 2), raft.Out{Commits: []api.Entry{x}})
}

// P9.6: by the change it may be a majority alone: the entry is committed at once, with what was not yet.
func TestConfThatLeavesItAlone(t *testing.T) {
	r := fresh(t, 1, voters(1, 2))
	leads(t, r, 2)
	acked(r, 2, 1)
	first, _ := proposed(t, r, command(1))
	x, o := proposed(t, r, toConf(voters(1)))
	want(t, "alone", o, raft.Out{Save: true, Hard: api.Hard{Term: 1, Vote: 1}, Entries: []api.Entry{x}, Commits: []api.Entry{first, x}})
	if s := r.Status(); s.Role != raft.Leader || s.Commit != 3 {
		t.Fatalf("Status: %+v", s)
	}
}

// P9.6: a leader that takes itself out leads till that is committed, by the others alone; then it follows, knows no leader, and waits from 0, sending nothing more.
func TestConfWithoutTheLeader(t *testing.T) {
	for _, c := range []api.Conf{voters(2, 3), servers([]int{2, 3}, []int{1})} {
		r := leader3(t)
		r.Tick(8)
		if e, _ := r.Read(4); e != api.OK {
			t.Fatalf("Read: %d", e)
		}
		x, _ := proposed(t, r, toConf(c))
		later, _ := proposed(t, r, command(1))
		want(t, "one of two", acked(r, 2, 3), raft.Out{})
		if s := r.Status(); s.Role != raft.Leader || s.Leader != 1 || !alike(s.Conf, c) {
			t.Fatalf("Status: %+v", s)
		}
		// 3 lacks the later one, but is not sent it by one that leads no more.
		want(t, "both", acked(r, 3, 2), raft.Out{Commits: []api.Entry{x}})
		wantStatus(t, r, raft.Status{Hard: api.Hard{Term: 1, Vote: 1}, Commit: 2, Last: later.Index, Conf: c})
		refusesProposal(t, r, command(2), api.ErrLeader)
		if e, _ := r.Read(5); e != api.ErrLeader {
			t.Fatalf("Read: %d", e)
		}
		want(t, "a late answer", r.Step(to(r, api.Msg{Kind: api.MsgAppended, From: 2, Index: 3, Ctx: 1})), raft.Out{})
		for range 50 {
			want(t, "a tick", r.Tick(0), raft.Out{})
		}
	}
}

// The word 'a wait': who took itself out, and is taken in again, stands at the end of a wait that has a draw of its own.
func TestConfWithoutTheLeaderAndBack(t *testing.T) {
	r := leader3(t)
	r.Tick(9)
	proposed(t, r, toConf(voters(2, 3)))
	acked(r, 2, 2)
	acked(r, 3, 2)
	r.Tick(1)
	r.Step(api.Msg{Kind: api.MsgAppend, From: 2, To: 1, Term: 1, Index: 2, LogTerm: 1, Entries: []api.Entry{confEntry(3, 1, voters(1, 2, 3))}, Commit: 3})
	standsAt(t, r, 14, 4)
}

// P9.6: a leader that demotes or takes out another one stays what it is.
func TestConfWithoutAnotherOne(t *testing.T) {
	r := leader3(t)
	proposed(t, r, toConf(servers([]int{1, 2}, []int{3})))
	acked(r, 2, 2)
	if s := r.Status(); s.Role != raft.Leader || s.Leader != 1 || s.Commit != 2 {
		t.Fatalf("Status: %+v", s)
	}
}

// P9.6: who was taken out and comes again is known as it was.
func TestConfOfOneThatComesAgain(t *testing.T) {
	r := leader3(t)
	acked(r, 3, 1)
	proposed(t, r, toConf(voters(1, 2)))
	acked(r, 2, 2)
	proposed(t, r, toConf(servers([]int{1, 2}, []int{3})))
	acked(r, 2, 3)
	r.Tick(0)
	o := r.Tick(0)
	if len(o.Msgs) != 2 || o.Msgs[1].To != 3 || o.Msgs[1].Index != 1 || len(o.Msgs[1].Entries) != 2 {
		t.Fatalf("a beat: %s", short(o))
	}
}

// P9.6: the log's error, when all else may be.
func TestProposeToAFullLog(t *testing.T) {
	s := api.Saved{Hard: api.Hard{Term: 3}, Snapshot: api.Snapshot{Index: most - 2, Term: 2, Conf: voters(1), Data: []byte("s")}}
	r := opened(t, 1, voters(1), s)
	leads(t, r)
	x, o := proposed(t, r, command(1))
	want(t, "the last entry", o, raft.Out{Save: true, Hard: api.Hard{Term: 4, Vote: 1}, Entries: []api.Entry{x}, Commits: []api.Entry{x}})
	if x.Index != most {
		t.Fatalf("the last entry: %v", x)
	}
	refusesProposal(t, r, command(2), api.ErrFull)
	refusesProposal(t, r, toConf(voters(1)), api.ErrFull)
	refusesProposal(t, r, toConf(voters(2, 3)), api.ErrServers)
	refusesProposal(t, r, api.Cmd{Op: api.CmdNop}, api.ErrArg)
}
