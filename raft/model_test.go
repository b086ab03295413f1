package raft_test

import (
	"slices"

	"coxswain/api"
	"coxswain/conf"
	"coxswain/raft"
)

// model does what the chapter's words say, of plain lists and maps, and keeps nothing that can be worked out anew; it is slow.
type model struct {
	id           int
	first        api.Conf
	term, vote   int
	snapshot     api.Snapshot
	list         []api.Entry
	commit       int
	role, leader int
	count, end   int
	votes        map[int]int
	began        int // next, of each of whom nothing else was heard
	match, next  map[int]int
	have         map[int]int // how much of the snapshot a member has
	heard        map[int]int // the last round that it answered
	round        int
	waiting      []waiting
	key          [5]int
	bytes        []byte
	out          raft.Out
}

type waiting struct {
	ready raft.Ready
	round int
}

func newModel(id int, c api.Conf, s api.Saved) *model {
	m := &model{id: id, first: c, term: s.Hard.Term, vote: s.Hard.Vote, list: slices.Clone(s.Entries)}
	if s.Snapshot.Index > 0 {
		m.snapshot = s.Snapshot
	}
	m.commit = m.snapshot.Index
	return m
}

func (m *model) last() (int, int) {
	if n := len(m.list); n > 0 {
		return m.list[n-1].Index, m.list[n-1].Term
	}
	return m.snapshot.Index, m.snapshot.Term
}

// termAt is -1, if there is no such entry.
func (m *model) termAt(index int) int {
	if index == m.snapshot.Index {
		return m.snapshot.Term
	}
	for _, x := range m.list {
		if x.Index == index {
			return x.Term
		}
	}
	return -1
}

func (m *model) between(from, to int) []api.Entry {
	var out []api.Entry
	for _, x := range m.list {
		if x.Index >= from && x.Index <= to {
			out = append(out, x)
		}
	}
	return out
}

func (m *model) serversUpTo(index int) api.Conf {
	c := m.first
	if m.snapshot.Index > 0 {
		c = m.snapshot.Conf
	}
	for _, x := range m.between(0, index) {
		if x.Cmd.Op == api.CmdConf {
			c = x.Cmd.Conf
		}
	}
	return c
}

func (m *model) servers() api.Conf {
	last, _ := m.last()
	return m.serversUpTo(last)
}

func (m *model) voter(s int) bool { return slices.Contains(m.servers().Voters, s) }

func (m *model) member(s int) bool {
	return m.voter(s) || slices.Contains(m.servers().Learners, s)
}

func (m *model) others() []int {
	c := m.servers()
	all := append(slices.Clone(c.Voters), c.Learners...)
	slices.Sort(all)
	return slices.DeleteFunc(slices.Compact(all), func(s int) bool { return s == m.id })
}

// majority counts the voters, as often as they stand there, that are itself or in yes.
func (m *model) majority(yes func(s int) bool) bool {
	count := 0
	for _, s := range m.servers().Voters {
		if s == m.id || yes(s) {
			count++
		}
	}
	return 2*count > len(m.servers().Voters)
}

func (m *model) send(x api.Msg) {
	x.From, x.Term = m.id, m.term
	m.out.Msgs = append(m.out.Msgs, x)
}

func (m *model) answer() raft.Out {
	out := m.out
	m.out = raft.Out{}
	if out.Save {
		out.Hard = api.Hard{Term: m.term, Vote: m.vote}
	}
	return out
}

func (m *model) status() raft.Status {
	last, _ := m.last()
	return raft.Status{Role: m.role, Leader: m.leader, Hard: api.Hard{Term: m.term, Vote: m.vote}, Commit: m.commit, Last: last, Base: m.snapshot.Index, Conf: m.servers()}
}

func (m *model) wait() { m.count, m.end = 0, 0 }

func (m *model) follow(leader int) {
	m.role, m.leader, m.waiting = raft.Follower, leader, nil
}

func (m *model) tick(draw int) raft.Out {
	if m.end == 0 {
		if draw < 0 {
			draw = -(draw + 1)
		}
		m.end = 10 + draw%10
	}
	m.count++
	if m.role == raft.Leader {
		if m.count == 2 {
			m.count = 0
			m.sendAll()
		}
		return m.answer()
	}
	if m.count < m.end {
		return m.answer()
	}
	if !m.voter(m.id) {
		m.count = 0
		return m.answer()
	}
	m.wait()
	if m.term < most {
		m.stand()
	}
	return m.answer()
}

func (m *model) stand() {
	m.term, m.vote, m.role, m.leader = m.term+1, m.id, raft.Candidate, 0
	m.out.Save = true
	m.votes = map[int]int{}
	index, term := m.last()
	for _, s := range m.others() {
		if m.voter(s) {
			m.send(api.Msg{Kind: api.MsgVote, To: s, Index: index, LogTerm: term})
		}
	}
	m.elected()
}

func (m *model) elected() {
	if m.majority(func(s int) bool { return m.votes[s] > 0 }) {
		m.lead()
	}
}

func (m *model) lead() {
	m.role, m.leader, m.count, m.round, m.waiting = raft.Leader, m.id, 0, 0, nil
	m.match, m.next, m.have, m.heard = map[int]int{}, map[int]int{}, map[int]int{}, map[int]int{}
	last, _ := m.last()
	m.began = last + 1
	if last < most {
		m.put(api.Cmd{Op: api.CmdNop})
	}
	m.sendAll()
	m.alone()
}

func (m *model) put(c api.Cmd) api.Entry {
	last, _ := m.last()
	x := api.Entry{Index: last + 1, Term: m.term, Cmd: c}
	m.list = append(m.list, x)
	m.out.Save, m.out.Entries = true, []api.Entry{x}
	return x
}

func (m *model) alone() {
	if m.majority(func(int) bool { return false }) {
		last, _ := m.last()
		m.commitOwn(last)
	}
}

func (m *model) commitOwn(index int) {
	if index > m.commit && m.termAt(index) == m.term {
		m.commitTo(index)
	}
}

func (m *model) commitTo(index int) {
	if index <= m.commit {
		return
	}
	list := m.between(m.commit+1, index)
	m.out.Commits = append(m.out.Commits, list...)
	m.commit = index
	for _, x := range list {
		if x.Cmd.Op == api.CmdConf && m.role == raft.Leader && !m.voter(m.id) {
			m.follow(0)
			m.wait()
		}
	}
}

func (m *model) sendAll() {
	for _, s := range m.others() {
		m.lack(s)
	}
}

func (m *model) nextOf(s int) int {
	if n, ok := m.next[s]; ok {
		return n
	}
	return m.began
}

func (m *model) lack(s int) {
	next := m.nextOf(s)
	if next <= m.snapshot.Index {
		x := m.snapshot
		from := m.have[s]
		m.send(api.Msg{Kind: api.MsgSnap, To: s, Index: x.Index, LogTerm: x.Term, Conf: x.Conf, Offset: from, Total: len(x.Data), Data: x.Data[from:min(len(x.Data), from+256)]})
		return
	}
	m.send(api.Msg{Kind: api.MsgAppend, To: s, Index: next - 1, LogTerm: m.termAt(next - 1), Entries: m.between(next, next+7), Commit: m.commit, Ctx: m.round})
}

func (m *model) step(x api.Msg) raft.Out {
	if x.To != m.id || x.From == m.id || x.From < 1 || x.From > 5 || x.Term < 1 || x.Term > most || x.LogTerm > x.Term || x.Kind < api.MsgVote || x.Kind > api.MsgSnapped {
		return raft.Out{}
	}
	if len(x.Entries) > 0 && x.Entries[len(x.Entries)-1].Term > x.Term {
		return raft.Out{}
	}
	if x.Term > m.term {
		m.term, m.vote, m.out.Save = x.Term, 0, true
		m.follow(0)
	}
	if x.Term < m.term {
		last, _ := m.last()
		switch x.Kind {
		case api.MsgVote:
			m.send(api.Msg{Kind: api.MsgVoted, To: x.From, Reject: true})
		case api.MsgAppend:
			m.send(api.Msg{Kind: api.MsgAppended, To: x.From, Reject: true, Index: last})
		case api.MsgSnap:
			m.send(api.Msg{Kind: api.MsgSnapped, To: x.From, Reject: true, Index: x.Index, Total: 1})
		}
		return m.answer()
	}
	switch x.Kind {
	case api.MsgVote:
		m.takeVote(x)
	case api.MsgVoted:
		if m.role == raft.Candidate && !x.Reject {
			m.votes[x.From] = 1
			m.elected()
		}
	case api.MsgAppend:
		m.takeAppend(x)
	case api.MsgAppended:
		m.takeAppended(x)
	case api.MsgSnap:
		m.takeSnap(x)
	case api.MsgSnapped:
		m.takeSnapped(x)
	}
	return m.answer()
}

func (m *model) takeVote(x api.Msg) {
	index, term := m.last()
	newer := x.LogTerm > term || x.LogTerm == term && x.Index >= index
	given := newer && m.role != raft.Leader && (m.vote == 0 || m.vote == x.From)
	if given {
		m.wait()
		if m.vote != x.From {
			m.vote, m.out.Save = x.From, true
		}
	}
	m.send(api.Msg{Kind: api.MsgVoted, To: x.From, Reject: !given})
}

func (m *model) mayAccept(x api.Msg) bool {
	if term := m.termAt(x.Index); term < 0 || term != x.LogTerm {
		return false
	}
	term := x.LogTerm
	for i, e := range x.Entries {
		if e.Index != x.Index+1+i || e.Index > most || e.Term < term || e.Term > most {
			return false
		}
		term = e.Term
	}
	return true
}

func (m *model) takeAppend(x api.Msg) {
	if m.role == raft.Leader {
		return
	}
	m.follow(x.From)
	m.wait()
	last, _ := m.last()
	switch {
	case x.Index < m.commit:
		m.send(api.Msg{Kind: api.MsgAppended, To: x.From, Index: m.commit, Ctx: x.Ctx})
	case !m.mayAccept(x):
		m.send(api.Msg{Kind: api.MsgAppended, To: x.From, Reject: true, Index: min(last, x.Index-1), Ctx: x.Ctx})
	default:
		for i, e := range x.Entries {
			if m.termAt(e.Index) != e.Term {
				m.list = append(m.between(0, e.Index-1), x.Entries[i:]...)
				m.out.Save, m.out.Entries = true, x.Entries[i:]
				break
			}
		}
		n := x.Index + len(x.Entries)
		m.commitTo(min(n, x.Commit))
		m.send(api.Msg{Kind: api.MsgAppended, To: x.From, Index: n, Ctx: x.Ctx})
	}
}

func (m *model) takeAppended(x api.Msg) {
	if m.role != raft.Leader || !m.member(x.From) {
		return
	}
	if x.Ctx >= 1 && x.Ctx <= m.round {
		m.heard[x.From] = max(m.heard[x.From], x.Ctx)
	}
	m.tellReads()
	if !x.Reject {
		m.has(x.From, x.Index)
		return
	}
	next := m.nextOf(x.From) - 1
	if hint := max(x.Index, 0); hint < next-1 {
		next = hint + 1
	}
	m.next[x.From] = max(next, m.match[x.From]+1)
	m.lack(x.From)
}

func (m *model) has(s, index int) {
	last, _ := m.last()
	m.match[s] = max(m.match[s], min(index, last))
	m.next[s] = max(m.nextOf(s), m.match[s]+1)
	m.have[s] = 0
	for i := last; i > m.commit; i-- {
		if m.majority(func(s int) bool { return m.match[s] >= i }) && m.termAt(i) == m.term {
			m.commitTo(i)
			break
		}
	}
	if m.role == raft.Leader && m.nextOf(s) <= last {
		m.lack(s)
	}
}

func (m *model) takeSnap(x api.Msg) {
	if m.role == raft.Leader {
		return
	}
	m.follow(x.From)
	m.wait()
	if x.Index <= m.commit {
		m.send(api.Msg{Kind: api.MsgSnapped, To: x.From, Index: m.commit})
		return
	}
	key := [5]int{x.Term, x.From, x.Index, x.LogTerm, x.Total}
	if key != m.key || x.Offset == 0 {
		m.key, m.bytes = key, nil
	}
	totalMay := x.Total >= 1 && x.Total <= maxData
	if totalMay && x.Offset == len(m.bytes) && x.Offset+len(x.Data) <= x.Total {
		m.bytes = append(m.bytes, x.Data...)
	}
	if !totalMay || len(m.bytes) < x.Total || !conf.May(x.Conf) || x.Index > most || x.LogTerm < 1 {
		m.send(api.Msg{Kind: api.MsgSnapped, To: x.From, Index: x.Index, Offset: len(m.bytes), Total: max(x.Total, 1)})
		return
	}
	last, _ := m.last()
	var stays []api.Entry
	if m.termAt(x.Index) == x.LogTerm {
		stays = m.between(x.Index+1, last)
	}
	m.list, m.commit = stays, x.Index
	m.take(api.Snapshot{Index: x.Index, Term: x.LogTerm, Conf: x.Conf, Data: m.bytes})
	m.send(api.Msg{Kind: api.MsgSnapped, To: x.From, Index: x.Index})
}

func (m *model) take(s api.Snapshot) {
	m.snapshot, m.have = s, map[int]int{}
	m.out.Save, m.out.Snapshot = true, &s
}

func (m *model) takeSnapped(x api.Msg) {
	if m.role != raft.Leader || !m.member(x.From) {
		return
	}
	if !x.Reject && x.Total == 0 {
		m.has(x.From, x.Index)
	} else if x.Index == m.snapshot.Index {
		m.have[x.From] = max(0, min(x.Offset, len(m.snapshot.Data)))
		m.lack(x.From)
	}
}

func (m *model) tellReads() {
	for len(m.waiting) > 0 && m.majority(func(s int) bool { return m.heard[s] >= m.waiting[0].round }) {
		m.out.Reads = append(m.out.Reads, m.waiting[0].ready)
		m.waiting = m.waiting[1:]
	}
}

func (m *model) propose(c api.Cmd) (api.Entry, api.Errno, raft.Out) {
	last, _ := m.last()
	behind := 0
	for _, x := range m.between(m.commit+1, last) {
		if x.Cmd.Op == api.CmdConf {
			behind++
		}
	}
	var e api.Errno
	switch {
	case m.role != raft.Leader:
		e = api.ErrLeader
	case c.Op == api.CmdNop:
		e = api.ErrArg
	case c.Op == api.CmdConf && (m.termAt(m.commit) != m.term || behind > 0):
		e = api.ErrBusy
	case c.Op == api.CmdConf && !conf.Single(m.servers(), c.Conf):
		e = api.ErrServers
	case last == most:
		e = api.ErrFull
	}
	if e != api.OK {
		return api.Entry{}, e, raft.Out{}
	}
	x := m.put(c)
	for _, s := range m.others() {
		if m.nextOf(s) == x.Index {
			m.lack(s)
		}
	}
	m.alone()
	return x, api.OK, m.answer()
}

func (m *model) read(ctx int) (api.Errno, raft.Out) {
	switch {
	case m.role != raft.Leader || m.termAt(m.commit) != m.term:
		return api.ErrLeader, raft.Out{}
	case ctx < 1 || ctx > most:
		return api.ErrArg, raft.Out{}
	case len(m.waiting) == 64:
		return api.ErrFull, raft.Out{}
	}
	m.round++
	m.waiting = append(m.waiting, waiting{raft.Ready{Ctx: ctx, Index: m.commit}, m.round})
	m.sendAll()
	m.tellReads()
	return api.OK, m.answer()
}

func (m *model) compact(index int, data []byte) (api.Errno, raft.Out) {
	switch {
	case len(data) == 0 || len(data) > maxData:
		return api.ErrArg, raft.Out{}
	case index > m.commit:
		return api.ErrEmpty, raft.Out{}
	case index <= m.snapshot.Index:
		return api.OK, raft.Out{}
	}
	s := api.Snapshot{Index: index, Term: m.termAt(index), Conf: m.serversUpTo(index), Data: data}
	last, _ := m.last()
	m.list = m.between(index+1, last)
	m.take(s)
	return api.OK, m.answer()
}
