package raft

import (
	"coxswain/api"
	"coxswain/conf"
	"coxswain/raftlog"
)

// sent tells one snapshot that is sent from another. (Of another term there are no pieces any more.)
type sent struct {
	from, index, logTerm, total int
}

// pieces are what came of a snapshot.
type pieces struct {
	of   sent
	data []byte
}

func (r *Raft) sendPiece(s, offset int) {
	snap := &r.snapshot
	r.post(s, api.Msg{
		Kind: api.MsgSnap, Index: snap.Index, LogTerm: snap.Term, Conf: copyConf(snap.Conf),
		Offset: offset, Total: len(snap.Data), Data: copyList(snap.Data[offset:min(offset+api.MaxChunk, len(snap.Data))]),
	})
}

// takeSnap takes a piece of a leader's snapshot, and, if that is whole, the snapshot.
func (r *Raft) takeSnap(m api.Msg) {
	r.hear(m.From)
	answer := api.Msg{Kind: api.MsgSnapped, Index: m.Index}
	if m.Index <= r.commit {
		answer.Index = r.commit
		r.post(m.From, answer)
		return
	}
	r.takePiece(m)
	if r.isWhole(m) {
		r.setSnapshot(api.Snapshot{Index: m.Index, Term: m.LogTerm, Conf: m.Conf, Data: r.pieces.data})
		r.setCommit(m.Index)
	} else {
		answer.Offset, answer.Total = len(r.pieces.data), max(m.Total, 1)
	}
	r.post(m.From, answer)
}

func (r *Raft) takePiece(m api.Msg) {
	of := sent{from: m.From, index: m.Index, logTerm: m.LogTerm, total: m.Total}
	if of != r.pieces.of || m.Offset == 0 {
		r.pieces = pieces{of: of}
	}
	if m.Total >= 1 && m.Total <= maxData && m.Offset == len(r.pieces.data) && len(m.Data) <= m.Total-m.Offset {
		r.pieces.data = append(r.pieces.data, m.Data...)
	}
}

// isWhole tells whether all pieces are there, and make a snapshot that may be.
func (r *Raft) isWhole(m api.Msg) bool {
	return m.Total >= 1 && len(r.pieces.data) == m.Total && conf.May(m.Conf) && raftlog.New(m.Index, m.LogTerm) != nil
}

// setSnapshot lets a snapshot take the place of the entries up to its Index, or, if the log has another entry there, of all.
func (r *Raft) setSnapshot(s api.Snapshot) {
	r.snapshot = copySnapshot(s)
	if term, e := r.log.Term(s.Index); e == api.OK && term == s.Term {
		r.log.Compact(s.Index)
		r.changes = r.changes.behind(s.Index, r.snapshot.Conf)
	} else {
		r.log = raftlog.New(s.Index, s.Term)
		r.changes = changes{{index: s.Index, conf: r.snapshot.Conf}}
	}
	for i := range r.others {
		// Nobody is known to have anything of this one.
		r.others[i].offset = 0
	}
	r.saveSnapshot(copySnapshot(r.snapshot))
}

// snapped takes a member's answer to a piece.
func (r *Raft) snapped(m api.Msg) {
	if !m.Reject && m.Total == 0 {
		r.reached(m.From, m.Index)
		return
	}
	if m.Index == r.snapshot.Index {
		r.other(m.From).offset = max(0, min(m.Offset, len(r.snapshot.Data)))
		r.sendLack(m.From)
	}
}
