package raft

import (
	"coxswain/api"
	"coxswain/conf"
)

func (r *Raft) beginWait() {
	r.count, r.end = 0, 0
}

// setEnd takes the first draw since the wait began, be it a leader's: who leads no more may go on with that wait.
func (r *Raft) setEnd(draw int) {
	if r.end > 0 {
		return
	}
	if draw < 0 {
		// One more first: what is least of all has no opposite.
		draw = -(draw + 1)
	}
	r.end = api.TickElect + draw%api.TickDraw
}

func (r *Raft) endWait() {
	if !r.isVoter() {
		r.count = 0
		return
	}
	r.beginWait()
	if r.hard.Term < api.MaxNumber {
		r.stand()
	}
}

func (r *Raft) stand() {
	r.setHard(api.Hard{Term: r.hard.Term + 1, Vote: r.id})
	r.role, r.leader = Candidate, 0
	for s := range r.others {
		r.others[s].voted = false
	}
	index, term := r.log.Last()
	for _, s := range r.otherMembers() {
		if conf.Voter(r.servers(), s) {
			r.post(s, api.Msg{Kind: api.MsgVote, Index: index, LogTerm: term})
		}
	}
	r.leadIfElected()
}

func (r *Raft) leadIfElected() {
	if r.majority(func(o *other) bool { return o.voted }) {
		r.lead()
	}
}

func (r *Raft) lead() {
	r.role, r.leader = Leader, r.id
	r.count, r.round = 0, 0
	last, _ := r.log.Last()
	for s := range r.others {
		r.others[s] = other{next: last + 1}
	}
	// A log that takes no more leads without it, and what it has is committed no further.
	r.put(api.Cmd{Op: api.CmdNop})
	r.sendAll()
	r.commitAlone()
}

// follow leads and stands no more, behind a leader (0: it knows none).
func (r *Raft) follow(leader int) {
	r.role, r.leader, r.reads = Follower, leader, nil
}

// hear follows its term's leader.
func (r *Raft) hear(leader int) {
	r.follow(leader)
	r.beginWait()
}

// setHard is another term, or another vote.
func (r *Raft) setHard(h api.Hard) {
	if h.Term != r.hard.Term {
		// Pieces of a snapshot that come in another term begin anew.
		r.pieces = pieces{}
	}
	r.hard = h
	r.save()
}

// vote gives its vote to who asks, or does not.
func (r *Raft) vote(m api.Msg) {
	free := r.hard.Vote == 0 || r.hard.Vote == m.From
	given := free && r.role != Leader && r.log.Newer(m.Index, m.LogTerm)
	if given {
		r.beginWait()
		if r.hard.Vote == 0 {
			r.setHard(api.Hard{Term: r.hard.Term, Vote: m.From})
		}
	}
	r.post(m.From, api.Msg{Kind: api.MsgVoted, Reject: !given})
}

func (r *Raft) voted(m api.Msg) {
	if r.role != Candidate || m.Reject {
		return
	}
	r.others[m.From].voted = true
	r.leadIfElected()
}
