package raft_test

import (
	"fmt"
	"math"
	"testing"

	"coxswain/api"
	"coxswain/raft"
)

func asked(t *testing.T, r *raft.Raft, ctx int) raft.Out {
	t.Helper()
	e, o := r.Read(ctx)
	if e != api.OK {
		t.Fatalf("Read(%d): %d", ctx, e)
	}
	return o
}

func refusesRead(t *testing.T, r *raft.Raft, ctx int, wanted api.Errno) {
	t.Helper()
	was := r.Status()
	e, o := r.Read(ctx)
	if e != wanted {
		t.Fatalf("Read(%d): %d; not %d", ctx, e, wanted)
	}
	want(t, "a read that is refused", o, raft.Out{})
	wantStatus(t, r, was)
}

// answersRound is a member's answer in a round, and what reads are told by it.
func answersRound(t *testing.T, r *raft.Raft, from, round int, wanted ...raft.Ready) {
	t.Helper()
	o := r.Step(to(r, api.Msg{Kind: api.MsgAppended, From: from, Ctx: round, Index: r.Status().Last}))
	if !alike(o.Reads, wanted) {
		t.Fatalf("server %d answers the round %d: %v; not %v", from, round, o.Reads, wanted)
	}
}

// P9.7: who doesn't lead, or has committed nothing of its Term, refuses, ahead of all else.
func TestReadOfWhoMayNot(t *testing.T) {
	for role, r := range roles(t) {
		for _, ctx := range []int{1, 0, -1, most + 1} {
			refusesRead(t, r, ctx, api.ErrLeader)
		}
		if role != "leader" {
			continue
		}
		acked(r, 2, 3)
		refusesRead(t, r, 1, api.ErrLeader)
		acked(r, 2, 4)
		asked(t, r, 1)
	}
}

// P9.7: numbers that are none.
func TestReadOfAWrongNumber(t *testing.T) {
	r := leader3(t)
	for _, ctx := range append(farNumbers(), 0) {
		refusesRead(t, r, ctx, api.ErrArg)
	}
	asked(t, r, 1)
	asked(t, r, most)
	answersRound(t, r, 2, 2, raft.Ready{Ctx: 1, Index: 1}, raft.Ready{Ctx: most, Index: 1})
}

// P9.7: a read sends what each lacks, with its round; it is told when a majority has answered, once.
func TestRead(t *testing.T) {
	r := leader3(t)
	x, _ := proposed(t, r, command(1))
	want(t, "Read", asked(t, r, 7), raft.Out{Msgs: []api.Msg{
		{Kind: api.MsgAppend, From: 1, To: 2, Term: 1, Index: 1, LogTerm: 1, Entries: []api.Entry{x}, Commit: 1, Ctx: 1},
		{Kind: api.MsgAppend, From: 1, To: 3, Term: 1, Entries: []api.Entry{nop(1, 1), x}, Commit: 1, Ctx: 1},
	}})
	want(t, "an answer", r.Step(to(r, api.Msg{Kind: api.MsgAppended, From: 2, Index: 2, Ctx: 1})), raft.Out{Commits: []api.Entry{x}, Reads: []raft.Ready{{Ctx: 7, Index: 1}}})
	want(t, "the same again", r.Step(to(r, api.Msg{Kind: api.MsgAppended, From: 2, Index: 2, Ctx: 1})), raft.Out{})
	want(t, "another one's", r.Step(to(r, api.Msg{Kind: api.MsgAppended, From: 3, Index: 2, Ctx: 1})), raft.Out{})
	want(t, "an empty Read", asked(t, r, 8), raft.Out{Msgs: []api.Msg{
		{Kind: api.MsgAppend, From: 1, To: 2, Term: 1, Index: 2, LogTerm: 1, Commit: 2, Ctx: 2},
		{Kind: api.MsgAppend, From: 1, To: 3, Term: 1, Index: 2, LogTerm: 1, Commit: 2, Ctx: 2},
	}})
	answersRound(t, r, 3, 1)
	answersRound(t, r, 3, 2, raft.Ready{Ctx: 8, Index: 2})
}

// P9.7: rejecting or not, an answer counts; without Ctx, of an earlier round, or of one that has not begun, it does not.
func TestRounds(t *testing.T) {
	r := leader3(t)
	asked(t, r, 5)
	asked(t, r, 5)
	for _, ctx := range []int{0, -1, math.MinInt, 3, 4, math.MaxInt} {
		answersRound(t, r, 2, ctx)
	}
	answersRound(t, r, 3, 1, raft.Ready{Ctx: 5, Index: 1})
	asked(t, r, 6)
	asked(t, r, 7)
	answersRound(t, r, 3, 1)
	o := r.Step(to(r, api.Msg{Kind: api.MsgAppended, From: 2, Index: 0, Ctx: 3, Reject: true}))
	if !alike(o.Reads, []raft.Ready{{Ctx: 5, Index: 1}, {Ctx: 6, Index: 1}}) || len(o.Msgs) != 1 {
		t.Fatalf("a rejection in the round 3: %s", short(o))
	}
	// What was said of a round that had not begun is not taken up when it has.
	answersRound(t, r, 3, 5)
	asked(t, r, 8)
	answersRound(t, r, 3, 4, raft.Ready{Ctx: 7, Index: 1})
	answersRound(t, r, 2, 5, raft.Ready{Ctx: 8, Index: 1})
}

// P9.7: a majority of voters: learners and strangers don't count; of five it takes two more.
func TestRoundsOfVoters(t *testing.T) {
	r := fresh(t, 1, servers([]int{1, 2, 3}, []int{4}))
	leads(t, r, 2)
	acked(r, 3, 1)
	asked(t, r, 5)
	answersRound(t, r, 4, 1)
	answersRound(t, r, 5, 1)
	answersRound(t, r, 2, 1, raft.Ready{Ctx: 5, Index: 1})

	r = fresh(t, 1, voters(1, 2, 3, 4, 5))
	leads(t, r, 2, 3)
	acked(r, 3, 1)
	acked(r, 4, 1)
	asked(t, r, 5)
	asked(t, r, 6)
	answersRound(t, r, 2, 2)
	answersRound(t, r, 2, 2)
	answersRound(t, r, 3, 1, raft.Ready{Ctx: 5, Index: 1})
	answersRound(t, r, 4, 2, raft.Ready{Ctx: 6, Index: 1})
}

// P9.7: who is a majority alone tells at once, and sends learners what they lack.
func TestReadAlone(t *testing.T) {
	r := fresh(t, 1, servers([]int{1}, []int{3}))
	leads(t, r)
	for i := 1; i < 200; i++ {
		want(t, "Read", asked(t, r, i), raft.Out{Reads: []raft.Ready{{Ctx: i, Index: 1}}, Msgs: []api.Msg{
			{Kind: api.MsgAppend, From: 1, To: 3, Term: 1, Entries: []api.Entry{nop(1, 1)}, Commit: 1, Ctx: i},
		}})
	}
}

// P9.7: each is told the Index that was committed when it was asked, in the order in which they were.
func TestReadsOfManyIndexes(t *testing.T) {
	r := leader3(t)
	var wanted []raft.Ready
	for i := 1; i <= 5; i++ {
		asked(t, r, 10*i)
		wanted = append(wanted, raft.Ready{Ctx: 10 * i, Index: i})
		proposed(t, r, command(i))
		acked(r, 2, i+1)
	}
	answersRound(t, r, 3, 2, wanted[:2]...)
	answersRound(t, r, 3, 5, wanted[2:]...)
}

// P9.7: 64 may wait; one more when one of them was told.
func TestReadsThatWait(t *testing.T) {
	r := leader3(t)
	for i := 1; i <= 64; i++ {
		asked(t, r, i)
	}
	refusesRead(t, r, 65, api.ErrFull)
	refusesRead(t, r, 0, api.ErrArg)
	answersRound(t, r, 2, 1, raft.Ready{Ctx: 1, Index: 1})
	asked(t, r, 66)
	refusesRead(t, r, 67, api.ErrFull)
	var wanted []raft.Ready
	for i := 2; i <= 64; i++ {
		wanted = append(wanted, raft.Ready{Ctx: i, Index: 1})
	}
	answersRound(t, r, 3, 64, wanted...)
	// A read that was refused began no round.
	answersRound(t, r, 3, 65, raft.Ready{Ctx: 66, Index: 1})
}

// P9.7: reads are forgotten by one that has lost its place, and rounds are counted from 1 in its next time as a leader.
func TestReadsAreForgotten(t *testing.T) {
	r := leader3(t)
	for i := 1; i <= 64; i++ {
		asked(t, r, i)
	}
	r.Step(api.Msg{Kind: api.MsgVoted, From: 2, To: 1, Term: 7})
	refusesRead(t, r, 1, api.ErrLeader)
	o := leads(t, r, 2)
	for _, m := range o.Msgs {
		if m.Ctx != 0 {
			t.Fatalf("leading anew: %s", short(o))
		}
	}
	answersRound(t, r, 3, 64)
	if o := asked(t, r, 9); len(o.Msgs) != 2 || o.Msgs[0].Ctx != 1 {
		t.Fatalf("Read: %s", short(o))
	}
	answersRound(t, r, 3, 64)
	answersRound(t, r, 3, 1, raft.Ready{Ctx: 9, Index: 2})
}

// P9.7: an answer of another term says nothing: a lower one, or a higher one, which is followed.
func TestRoundsOfATerm(t *testing.T) {
	r := leader3(t)
	r.Step(api.Msg{Kind: api.MsgVoted, From: 2, To: 1, Term: 7})
	leads(t, r, 2)
	acked(r, 2, 2)
	asked(t, r, 9)
	want(t, "an answer of a lower term", r.Step(api.Msg{Kind: api.MsgAppended, From: 2, To: 1, Term: 7, Index: 2, Ctx: 1}), raft.Out{})
	want(t, "an answer of a higher term", r.Step(api.Msg{Kind: api.MsgAppended, From: 2, To: 1, Term: 9, Index: 2, Ctx: 1}), raft.Out{Save: true, Hard: api.Hard{Term: 9}})
}

// P9.7: every later append bears the last round; no round goes on by MsgSnapped.
func TestTheRoundOfAppends(t *testing.T) {
	r := leader3(t)
	asked(t, r, 1)
	asked(t, r, 2)
	for i := range 3 {
		if o := acked(r, 3, 0); len(o.Msgs) != 1 || o.Msgs[0].Ctx != 2 {
			t.Fatalf("an append: %s", short(o))
		}
		r.Tick(0)
		if o := r.Tick(0); len(o.Msgs) != 2 || o.Msgs[0].Ctx != 2 || o.Msgs[1].Ctx != 2 {
			t.Fatalf("a beat: %s", short(o))
		}
		_, o := proposed(t, r, command(i))
		for _, m := range o.Msgs {
			if m.Ctx != 2 {
				t.Fatalf("Propose: %s", short(o))
			}
		}
	}
	for _, total := range []int{0, 1} {
		if o := snapped(r, api.Msg{From: 2, Total: total, Ctx: 2}); len(o.Reads) != 0 {
			t.Fatalf("MsgSnapped: %s", short(o))
		}
	}
	answersRound(t, r, 2, 2, raft.Ready{Ctx: 1, Index: 1}, raft.Ready{Ctx: 2, Index: 1})
}

// P9.7: whether a majority has answered is looked at when a read is asked and whenever a member answers: by the servers of then.
func TestReadsWhileServersChange(t *testing.T) {
	r := leader3(t)
	acked(r, 3, 1)
	asked(t, r, 4)
	proposed(t, r, toConf(voters(1, 2, 3, 4)))
	answersRound(t, r, 2, 1)
	answersRound(t, r, 4, 1, raft.Ready{Ctx: 4, Index: 1})

	// With 2 gone, 1 is alone; nobody answers but the learner.
	for _, answer := range []int{0, 1} {
		r = fresh(t, 1, servers([]int{1, 2}, []int{3}))
		leads(t, r, 2)
		acked(r, 2, 1)
		asked(t, r, 4)
		if _, o := proposed(t, r, toConf(servers([]int{1}, []int{3}))); len(o.Reads) != 0 {
			t.Fatalf("Propose: %s", short(o))
		}
		answersRound(t, r, 2, 1)
		answersRound(t, r, 3, answer, raft.Ready{Ctx: 4, Index: 1})
	}
	r = fresh(t, 1, voters(1, 2))
	leads(t, r, 2)
	acked(r, 2, 1)
	asked(t, r, 4)
	proposed(t, r, toConf(voters(1)))
	want(t, "the next read", asked(t, r, 5), raft.Out{Reads: []raft.Ready{{Ctx: 4, Index: 1}, {Ctx: 5, Index: 2}}})
}

// P9.7: a read that the last answer of a leader's time tells is told, though it follows by the same answer.
func TestReadAndTheEndOfATime(t *testing.T) {
	r := leader3(t)
	x, _ := proposed(t, r, toConf(voters(2, 3)))
	asked(t, r, 4)
	answersRound(t, r, 2, 1)
	o := r.Step(to(r, api.Msg{Kind: api.MsgAppended, From: 3, Index: 2, Ctx: 1}))
	want(t, fmt.Sprint("the last answer"), o, raft.Out{Commits: []api.Entry{x}, Reads: []raft.Ready{{Ctx: 4, Index: 1}}})
	if s := r.Status(); s.Role != raft.Follower {
		t.Fatalf("Status: %+v", s)
	}
}
