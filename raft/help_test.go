package raft_test

import (
	"fmt"
	"math"
	"reflect"
	"testing"

	"coxswain/api"
	"coxswain/raft"
)

const (
	most    = api.MaxNumber
	maxData = 1 << 20
)

// farNumbers are ones that are no number of anything.
func farNumbers() []int {
	return []int{math.MinInt, math.MinInt + 1, -most - 1, -most, -1, most + 1, most + 2, 1 << 62, math.MaxInt - 1, math.MaxInt}
}

func voters(list ...int) api.Conf { return api.Conf{Voters: list} }

func servers(voters, learners []int) api.Conf { return api.Conf{Voters: voters, Learners: learners} }

// command is one with something in each of its lists, new memory each time it is asked for; the mark tells it from others.
func command(mark int) api.Cmd {
	ask := api.Res{CPU: mark, Mem: 2 * mark}
	return api.Cmd{
		Op: api.CmdPlan, Client: 1, Req: mark,
		Job:     api.Job{ID: 2, Type: api.JobBatch, Groups: []api.Group{{Count: mark, Ask: ask}, {Count: 4}}, Stopped: true},
		Node:    api.Node{ID: 6, Cap: ask, Up: true, Boot: mark},
		Reports: []api.Report{{Alloc: mark, State: 8}, {Alloc: 9}},
		Plan:    api.Plan{Job: 10, Stops: []int{mark, 12}, Places: []api.Alloc{{ID: mark, Ask: ask}, {ID: 13}}, Blocked: true},
		Conf:    api.Conf{Voters: []int{mark, 14}, Learners: []int{15, mark}},
	}
}

func nop(index, term int) api.Entry {
	return api.Entry{Index: index, Term: term, Cmd: api.Cmd{Op: api.CmdNop}}
}

// entry is one whose command hangs on its index and term, as in logs that have one leader a term.
func entry(index, term int) api.Entry {
	return api.Entry{Index: index, Term: term, Cmd: command(1000*(term%1000) + index%1000)}
}

// entries have these terms, and indexes from first on.
func entries(first int, terms ...int) []api.Entry {
	var out []api.Entry
	for i, term := range terms {
		out = append(out, entry(first+i, term))
	}
	return out
}

func toConf(c api.Conf) api.Cmd { return api.Cmd{Op: api.CmdConf, Conf: c} }

func confEntry(index, term int, c api.Conf) api.Entry {
	return api.Entry{Index: index, Term: term, Cmd: toConf(c)}
}

// bytesOf are so many, each of which tells its place.
func bytesOf(n int) []byte {
	out := make([]byte, n)
	for i := range out {
		out[i] = byte(i%251 + i/251)
	}
	return out
}

// alike takes lists of none and no lists as one, at every depth.
func alike(a, b any) bool {
	return reflect.DeepEqual(plain(a), plain(b))
}

// plain is a copy in which no list is empty but nil.
func plain(a any) any {
	from := reflect.ValueOf(a)
	out := reflect.New(from.Type()).Elem()
	plainInto(out, from)
	return out.Interface()
}

func plainInto(out, from reflect.Value) {
	switch from.Kind() {
	case reflect.Struct:
		for i := range from.NumField() {
			plainInto(out.Field(i), from.Field(i))
		}
	case reflect.Slice:
		if from.Len() > 0 {
			out.Set(reflect.MakeSlice(from.Type(), from.Len(), from.Len()))
		}
		if from.Type().Elem().Kind() == reflect.Uint8 {
			reflect.Copy(out, from) // of bytes there may be many
			return
		}
		for i := range from.Len() {
			plainInto(out.Index(i), from.Index(i))
		}
	case reflect.Pointer:
		if !from.IsNil() {
			out.Set(reflect.New(from.Type().Elem()))
			plainInto(out.Elem(), from.Elem())
		}
	default:
		out.Set(from)
	}
}

// shortMsg is of a message what tells it from others in a test's complaint.
func shortMsg(m api.Msg) string {
	out := fmt.Sprintf("{kind %d, %d to %d, term %d, index %d (%d), commit %d, ctx %d, offset %d of %d", m.Kind, m.From, m.To, m.Term, m.Index, m.LogTerm, m.Commit, m.Ctx, m.Offset, m.Total)
	if m.Reject {
		out += ", reject"
	}
	return out + fmt.Sprintf(", %s, %d bytes, %v}", shortList(m.Entries), len(m.Data), m.Conf)
}

func shortList(list []api.Entry) string {
	out := "entries"
	for _, x := range list {
		out += fmt.Sprintf(" %d(%d; op %d, %d)", x.Index, x.Term, x.Cmd.Op, x.Cmd.Req)
	}
	return out
}

func short(o raft.Out) string {
	out := fmt.Sprintf("save %v %v %s", o.Save, o.Hard, shortList(o.Entries))
	if s := o.Snapshot; s != nil {
		out += fmt.Sprintf(" snapshot %d (%d) %v, %d bytes", s.Index, s.Term, s.Conf, len(s.Data))
	}
	for _, m := range o.Msgs {
		out += "\n    " + shortMsg(m)
	}
	return out + fmt.Sprintf("\n    commits %s; reads %v", shortList(o.Commits), o.Reads)
}

// want asks that an answer is just this one.
func want(t *testing.T, what string, got, wanted raft.Out) {
	t.Helper()
	if !alike(got, wanted) {
		t.Fatalf("%s: %s\n  not %s", what, short(got), short(wanted))
	}
}

func wantStatus(t *testing.T, r *raft.Raft, wanted raft.Status) {
	t.Helper()
	if got := r.Status(); !alike(got, wanted) {
		t.Fatalf("Status: %+v\n  not %+v", got, wanted)
	}
}

// opened is a server that New takes.
func opened(t *testing.T, id int, c api.Conf, s api.Saved) *raft.Raft {
	t.Helper()
	r := raft.New(id, c, s)
	if r == nil {
		t.Fatalf("New(%d, %v, ..): nil", id, c)
	}
	return r
}

// fresh is a server that has saved nothing.
func fresh(t *testing.T, id int, c api.Conf) *raft.Raft {
	t.Helper()
	return opened(t, id, c, api.Saved{})
}

// having is a server with these entries behind nothing, of the term of the last of them.
func having(t *testing.T, id int, c api.Conf, list ...api.Entry) *raft.Raft {
	t.Helper()
	s := api.Saved{Entries: list}
	if len(list) > 0 {
		s.Hard.Term = list[len(list)-1].Term
	}
	return opened(t, id, c, s)
}

// standsAt asks that a server stands at just the n-th tick from now, of a draw.
func standsAt(t *testing.T, r *raft.Raft, n, draw int) raft.Out {
	t.Helper()
	term := r.Status().Hard.Term
	for i := 1; i < n; i++ {
		want(t, fmt.Sprintf("tick %d ahead of the wait's end at %d", i, n), r.Tick(draw), raft.Out{})
	}
	o := r.Tick(draw)
	if s := r.Status(); s.Hard != (api.Hard{Term: term + 1, Vote: s.Hard.Vote}) || s.Role == raft.Follower || !o.Save {
		t.Fatalf("tick %d: it does not stand: %+v", n, s)
	}
	return o
}

// candidate lets a server wait till it stands.
func candidate(t *testing.T, r *raft.Raft) raft.Out {
	t.Helper()
	for range 2*api.TickElect + api.TickDraw {
		if o := r.Tick(0); r.Status().Role != raft.Follower {
			return o
		}
	}
	t.Fatal("it never stands")
	return raft.Out{}
}

// leads lets a server stand, with these ones' votes.
func leads(t *testing.T, r *raft.Raft, from ...int) raft.Out {
	t.Helper()
	o := candidate(t, r)
	for _, s := range from {
		o = r.Step(to(r, api.Msg{Kind: api.MsgVoted, From: s}))
	}
	if r.Status().Role != raft.Leader {
		t.Fatalf("it does not lead with votes of %v", from)
	}
	return o
}

// to is a message to server 1, of its Term, if none is told.
func to(r *raft.Raft, m api.Msg) api.Msg {
	if m.Term == 0 {
		m.Term = r.Status().Hard.Term
	}
	if m.To == 0 {
		m.To = 1
	}
	return m
}

// acked lets a leader hear that a member has all up to an index.
func acked(r *raft.Raft, from, index int) raft.Out {
	return r.Step(to(r, api.Msg{Kind: api.MsgAppended, From: from, Index: index}))
}

// proposed lets a leader append a command, which it must take.
func proposed(t *testing.T, r *raft.Raft, c api.Cmd) (api.Entry, raft.Out) {
	t.Helper()
	x, e, o := r.Propose(c)
	if e != api.OK {
		t.Fatalf("Propose: %d", e)
	}
	return x, o
}

func refusesProposal(t *testing.T, r *raft.Raft, c api.Cmd, wanted api.Errno) {
	t.Helper()
	was := r.Status()
	x, e, o := r.Propose(c)
	if e != wanted || !alike(x, api.Entry{}) {
		t.Fatalf("Propose of op %d: %d, %v; not %d alone", c.Op, e, x, wanted)
	}
	want(t, "Propose that is refused", o, raft.Out{})
	wantStatus(t, r, was)
}

func compacted(t *testing.T, r *raft.Raft, index int, data []byte) raft.Out {
	t.Helper()
	e, o := r.Compact(index, data)
	if e != api.OK {
		t.Fatalf("Compact(%d, %d bytes): %d", index, len(data), e)
	}
	return o
}

// wantMsgs holds only the messages of an answer against others.
func wantMsgs(t *testing.T, what string, o raft.Out, wanted ...api.Msg) {
	t.Helper()
	if !alike(o.Msgs, wanted) {
		t.Fatalf("%s: %s\n  not %s", what, short(raft.Out{Msgs: o.Msgs}), short(raft.Out{Msgs: wanted}))
	}
}
