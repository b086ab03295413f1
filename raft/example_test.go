package raft_test

import (
	"fmt"
	"testing"

	"coxswain/api"
	"coxswain/raft"
)

// The chapter's examples, each answer whole.
func TestExamples(t *testing.T) {
	r := fresh(t, 1, voters(1, 2, 3))
	wantStatus(t, r, raft.Status{Conf: voters(1, 2, 3)})
	for i := range 9 {
		want(t, fmt.Sprintf("tick %d", i+1), r.Tick(0), raft.Out{})
	}
	want(t, "tick 10", r.Tick(0), raft.Out{Save: true, Hard: api.Hard{Term: 1, Vote: 1}, Msgs: []api.Msg{
		{Kind: api.MsgVote, From: 1, To: 2, Term: 1},
		{Kind: api.MsgVote, From: 1, To: 3, Term: 1},
	}})
	wantStatus(t, r, raft.Status{Role: raft.Candidate, Hard: api.Hard{Term: 1, Vote: 1}, Conf: voters(1, 2, 3)})
	first := []api.Entry{nop(1, 1)}
	want(t, "the vote", r.Step(api.Msg{Kind: api.MsgVoted, From: 2, To: 1, Term: 1}), raft.Out{Save: true, Hard: api.Hard{Term: 1, Vote: 1}, Entries: first, Msgs: []api.Msg{
		{Kind: api.MsgAppend, From: 1, To: 2, Term: 1, Entries: first},
		{Kind: api.MsgAppend, From: 1, To: 3, Term: 1, Entries: first},
	}})
	wantStatus(t, r, raft.Status{Role: raft.Leader, Leader: 1, Hard: api.Hard{Term: 1, Vote: 1}, Last: 1, Conf: voters(1, 2, 3)})
	want(t, "the answer", r.Step(api.Msg{Kind: api.MsgAppended, From: 3, To: 1, Term: 1, Index: 1}), raft.Out{Commits: first})
	x, e, o := r.Propose(command(7))
	second := api.Entry{Index: 2, Term: 1, Cmd: command(7)}
	if e != api.OK || !alike(x, second) {
		t.Fatalf("Propose: %v, %d", x, e)
	}
	want(t, "the job", o, raft.Out{Save: true, Hard: api.Hard{Term: 1, Vote: 1}, Entries: []api.Entry{second}, Msgs: []api.Msg{
		{Kind: api.MsgAppend, From: 1, To: 3, Term: 1, Index: 1, LogTerm: 1, Entries: []api.Entry{second}, Commit: 1},
	}})
	want(t, "another leader's append", r.Step(api.Msg{Kind: api.MsgAppend, From: 2, To: 1, Term: 2}), raft.Out{Save: true, Hard: api.Hard{Term: 2}, Msgs: []api.Msg{
		{Kind: api.MsgAppended, From: 1, To: 2, Term: 2, Index: 1},
	}})
	wantStatus(t, r, raft.Status{Leader: 2, Hard: api.Hard{Term: 2}, Commit: 1, Last: 2, Conf: voters(1, 2, 3)})
}
