package raft

import (
	"coxswain/api"
	"coxswain/conf"
)

func (r *Raft) sendAll() {
	for _, s := range r.otherMembers() {
		r.sendLack(s)
	}
}

// sendLack sends a member what it lacks.
func (r *Raft) sendLack(s int) {
	o := r.other(s)
	if base, _ := r.log.Base(); o.next <= base {
		r.sendPiece(s, o.offset)
		return
	}
	term, _ := r.log.Term(o.next - 1)
	r.post(s, api.Msg{
		Kind: api.MsgAppend, Index: o.next - 1, LogTerm: term,
		Entries: r.log.Slice(o.next, api.MaxEntries), Commit: r.commit, Ctx: r.round,
	})
}

// put appends a command as a leader.
func (r *Raft) put(c api.Cmd) (api.Entry, api.Errno) {
	x, e := r.log.Put(r.hard.Term, c)
	if e == api.OK {
		r.entriesFrom(x.Index)
	}
	return x, e
}

// entriesFrom says that the log has others from an index on.
func (r *Raft) entriesFrom(index int) {
	last, _ := r.log.Last()
	list := r.log.Slice(index, last-index+1)
	r.changes = r.changes.with(list)
	r.saveEntries(list)
}

// takeEntries takes a leader's entries, if the log is alike ahead of them.
func (r *Raft) takeEntries(m api.Msg) {
	r.hear(m.From)
	answer := api.Msg{Kind: api.MsgAppended, Ctx: m.Ctx}
	if m.Index < r.commit {
		answer.Index = r.commit
		r.post(m.From, answer)
		return
	}
	first, ok := r.log.Accept(m.Index, m.LogTerm, m.Entries)
	if !ok {
		last, _ := r.log.Last()
		answer.Reject, answer.Index = true, min(last, m.Index-1)
		r.post(m.From, answer)
		return
	}
	if first > 0 {
		r.entriesFrom(first)
	}
	answer.Index = m.Index + len(m.Entries)
	r.commitTo(min(m.Commit, answer.Index))
	r.post(m.From, answer)
}

// appended takes a member's answer to entries.
func (r *Raft) appended(m api.Msg) {
	o := r.other(m.From)
	// A round that has not begun can't have been answered.
	if m.Ctx <= r.round {
		o.round = max(o.round, m.Ctx)
	}
	r.tellReads()
	if !m.Reject {
		r.reached(m.From, m.Index)
		return
	}
	// An Index above next says no more than next does, and may have none above it.
	hint := min(max(m.Index, 0), o.next)
	o.next = max(min(o.next-1, hint+1), o.match+1)
	r.sendLack(m.From)
}

// reached says that a member has all up to an index.
func (r *Raft) reached(s, index int) {
	o := r.other(s)
	last, _ := r.log.Last()
	o.match = max(o.match, min(index, last))
	o.next = max(o.next, o.match+1)
	o.offset = 0
	r.commitOwn(r.agreed())
	// By what was committed it may lead no more.
	if r.role == Leader && o.next <= last {
		r.sendLack(s)
	}
}

// agreed is up to where a majority of voters has come.
func (r *Raft) agreed() int {
	var match [api.MaxServers]int
	for i := range match {
		match[i] = r.others[i+1].match
	}
	match[r.id-1], _ = r.log.Last()
	return conf.Agreed(r.servers(), match[:])
}

// commitAlone commits what a leader has that needs nobody else.
func (r *Raft) commitAlone() {
	if r.isMajorityAlone() {
		last, _ := r.log.Last()
		r.commitOwn(last)
	}
}

// commitOwn commits up to an entry of the Term: of a lesser one a majority may have it, and another leader's still take its place.
func (r *Raft) commitOwn(index int) {
	if term, e := r.log.Term(index); e == api.OK && term == r.hard.Term {
		r.commitTo(index)
	}
}

// commitTo commits up to an index, if that is more than is.
func (r *Raft) commitTo(index int) {
	was := r.commit
	if index <= was {
		return
	}
	r.tellCommits(r.log.Slice(was+1, index-was))
	r.setCommit(index)
	if r.role == Leader && r.changes.between(was, index) && !r.isVoter() {
		r.follow(0)
		r.beginWait()
	}
}

func (r *Raft) setCommit(index int) {
	r.commit = index
	if r.pieces.of.index <= index {
		// No more pieces of it will be taken.
		r.pieces = pieces{}
	}
}
