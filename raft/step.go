package raft

import "coxswain/api"

// mayCome tells whether a message is one for this server.
func (r *Raft) mayCome(m api.Msg) bool {
	if m.To != r.id || m.From == r.id || m.From < 1 || m.From > api.MaxServers {
		return false
	}
	if m.Term < 1 || m.Term > api.MaxNumber || m.LogTerm > m.Term {
		return false
	}
	if n := len(m.Entries); n > 0 && m.Entries[n-1].Term > m.Term {
		return false
	}
	return m.Kind >= api.MsgVote && m.Kind <= api.MsgSnapped
}

// refuse answers a message of a term that is over.
func (r *Raft) refuse(m api.Msg) {
	switch m.Kind {
	case api.MsgVote:
		r.post(m.From, api.Msg{Kind: api.MsgVoted, Reject: true})
	case api.MsgAppend:
		last, _ := r.log.Last()
		r.post(m.From, api.Msg{Kind: api.MsgAppended, Reject: true, Index: last})
	case api.MsgSnap:
		r.post(m.From, api.Msg{Kind: api.MsgSnapped, Reject: true, Index: m.Index, Total: 1})
	}
}

// take does what a message of the Term asks.
func (r *Raft) take(m api.Msg) {
	leads := r.role == Leader
	switch m.Kind {
	case api.MsgVote:
		r.vote(m)
	case api.MsgVoted:
		r.voted(m)
	case api.MsgAppend:
		if !leads {
			r.takeEntries(m)
		}
	case api.MsgAppended:
		if leads && r.isMember(m.From) {
			r.appended(m)
		}
	case api.MsgSnap:
		if !leads {
			r.takeSnap(m)
		}
	case api.MsgSnapped:
		if leads && r.isMember(m.From) {
			r.snapped(m)
		}
	}
}

// post sends a message of this server's, of its Term.
func (r *Raft) post(to int, m api.Msg) {
	m.From, m.To, m.Term = r.id, to, r.hard.Term
	r.send(m)
}
