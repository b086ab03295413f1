package raft_test

import (
	"reflect"
	"testing"

	"coxswain/api"
	"coxswain/raft"
)

// spoil overwrites all numbers and lists behind a pointer, and the room behind the lists, at every depth.
func spoil(p any) {
	spoilValue(reflect.ValueOf(p).Elem())
}

func spoilValue(v reflect.Value) {
	switch v.Kind() {
	case reflect.Struct:
		for i := range v.NumField() {
			spoilValue(v.Field(i))
		}
	case reflect.Slice:
		whole := v.Slice(0, v.Cap())
		for i := range whole.Len() {
			spoilValue(whole.Index(i))
		}
	case reflect.Pointer:
		if !v.IsNil() {
			spoilValue(v.Elem())
		}
	case reflect.Int:
		v.SetInt(-4321)
	case reflect.Uint8:
		v.SetUint(213)
	case reflect.Bool:
		v.SetBool(!v.Bool())
	default:
		panic(v.Kind())
	}
}

// listsOf are all lists of a value, at every depth.
func listsOf(v reflect.Value) []reflect.Value {
	var out []reflect.Value
	switch v.Kind() {
	case reflect.Struct:
		for i := range v.NumField() {
			out = append(out, listsOf(v.Field(i))...)
		}
	case reflect.Slice:
		out = append(out, v)
		for i := range v.Len() {
			out = append(out, listsOf(v.Index(i))...)
		}
	case reflect.Pointer:
		if !v.IsNil() {
			out = listsOf(v.Elem())
		}
	}
	return out
}

// apart asks that no two lists behind these pointers have memory in common, the room behind them neither.
func apart(t *testing.T, what string, pointers ...any) {
	t.Helper()
	type stretch struct{ from, to uintptr }
	var seen []stretch
	for _, p := range pointers {
		for _, list := range listsOf(reflect.ValueOf(p).Elem()) {
			from := list.Pointer()
			to := from + uintptr(list.Cap())*list.Type().Elem().Size()
			for _, s := range seen {
				if from < s.to && s.from < to {
					t.Fatalf("%s: two lists share memory", what)
				}
			}
			seen = append(seen, stretch{from, to})
		}
	}
}

// roomy is a copy whose lists have spare room that is filled, at every depth.
func roomy[T any](from T) T { return roomyAny(from).(T) }

func roomyAny(from any) any {
	v := reflect.ValueOf(from)
	out := reflect.New(v.Type()).Elem()
	roomyInto(out, v)
	return out.Interface()
}

func roomyInto(out, from reflect.Value) {
	switch from.Kind() {
	case reflect.Struct:
		for i := range from.NumField() {
			roomyInto(out.Field(i), from.Field(i))
		}
	case reflect.Slice:
		n := from.Len()
		wide := reflect.MakeSlice(from.Type(), n+2, n+2)
		for i := range n {
			roomyInto(wide.Index(i), from.Index(i))
		}
		for i := range 2 {
			spoilValue(wide.Index(n + i))
		}
		out.Set(wide.Slice(0, n))
	default:
		out.Set(from)
	}
}

// unroomy is a copy whose lists have what stood in their spare room as a part of them.
func unroomy(from any) any {
	v := reflect.ValueOf(from)
	out := reflect.New(v.Type()).Elem()
	unroomyInto(out, v)
	return out.Interface()
}

func unroomyInto(out, from reflect.Value) {
	switch from.Kind() {
	case reflect.Struct:
		for i := range from.NumField() {
			unroomyInto(out.Field(i), from.Field(i))
		}
	case reflect.Slice:
		n := from.Cap()
		out.Set(reflect.MakeSlice(from.Type(), n, n))
		for i := range n {
			unroomyInto(out.Index(i), from.Slice(0, n).Index(i))
		}
	default:
		out.Set(from)
	}
}

// R4: no two lists of an answer share memory: those that are saved, sent to each member, told as committed, and the entry itself.
func TestAnswersAreApart(t *testing.T) {
	r := fresh(t, 1, servers([]int{1}, []int{2, 3}))
	o := leads(t, r)
	apart(t, "leading", &o)
	acked(r, 2, 1)
	acked(r, 3, 1)
	x, o := proposed(t, r, command(1))
	if len(o.Msgs) != 2 || len(o.Commits) != 1 || len(o.Entries) != 1 {
		t.Fatalf("Propose: %s", short(o))
	}
	apart(t, "Propose", &x, &o)
	c := toConf(servers([]int{1}, []int{2, 3, 4}))
	x, o = proposed(t, r, c)
	apart(t, "Propose of a CmdConf", &c, &x, &o)
	data := []byte("data")
	o = compacted(t, r, 3, data)
	apart(t, "Compact", &data, &o)
	r.Tick(0)
	o = r.Tick(0)
	if len(o.Msgs) != 3 || o.Msgs[0].Kind != api.MsgSnap || o.Msgs[1].Kind != api.MsgSnap {
		t.Fatalf("a beat: %s", short(o))
	}
	apart(t, "a beat", &o)
	a, b := r.Status(), r.Status()
	apart(t, "Status", &a, &b, &o)
}

// R4: what was answered is the caller's own: spoilt, it is not seen in what comes later.
func TestAnswersAreTheCallers(t *testing.T) {
	r, twin := leader3(t), leader3(t)
	calls := []func(r *raft.Raft) raft.Out{
		func(r *raft.Raft) raft.Out { _, _, o := r.Propose(command(1)); return o },
		func(r *raft.Raft) raft.Out { return acked(r, 2, 2) },
		func(r *raft.Raft) raft.Out {
			_, _, o := r.Propose(toConf(servers([]int{1, 2, 3}, []int{4})))
			return o
		},
		func(r *raft.Raft) raft.Out { return acked(r, 2, 3) },
		func(r *raft.Raft) raft.Out { _, o := r.Compact(2, bytesOf(400)); return o },
		func(r *raft.Raft) raft.Out { return answers(r, 3, 0, true) },
		func(r *raft.Raft) raft.Out { return snapped(r, api.Msg{From: 3, Index: 2, Offset: 256, Total: 400}) },
		func(r *raft.Raft) raft.Out { return answers(r, 2, 3, true) },
		func(r *raft.Raft) raft.Out { r.Tick(0); return r.Tick(0) },
		func(r *raft.Raft) raft.Out { _, o := r.Read(3); return o },
		func(r *raft.Raft) raft.Out {
			return r.Step(to(r, api.Msg{Kind: api.MsgAppended, From: 2, Index: 3, Ctx: 1}))
		},
		func(r *raft.Raft) raft.Out { _, o := r.Compact(3, bytesOf(9)); return o },
		func(r *raft.Raft) raft.Out { return answers(r, 3, 0, true) },
	}
	for i, call := range calls {
		got, wanted := call(r), call(twin)
		if !alike(got, wanted) {
			t.Fatalf("call %d: %s\n  not %s", i, short(got), short(wanted))
		}
		spoil(&got)
		s := r.Status()
		spoil(&s)
	}
}

// R1 and R4: nil and empty lists are one, wherever they are handed in.
func TestNilAndEmptyAreOne(t *testing.T) {
	none := api.Cmd{Op: api.CmdSubmit}
	empty := api.Cmd{Op: api.CmdSubmit, Job: api.Job{Groups: []api.Group{}}, Reports: []api.Report{}, Plan: api.Plan{Stops: []int{}, Places: []api.Alloc{}}, Conf: api.Conf{Voters: []int{}, Learners: []int{}}}
	a, b := leader3(t), leader3(t)
	x, o := proposed(t, a, none)
	y, p := proposed(t, b, empty)
	if !alike(x, y) || !alike(o, p) {
		t.Errorf("Propose: %v, %v", x, y)
	}
	m := api.Msg{Kind: api.MsgAppend, From: 2, To: 1, Term: 3, Index: 2, LogTerm: 1}
	n := m
	n.Entries, n.Conf, n.Data = []api.Entry{}, api.Conf{Voters: []int{}, Learners: []int{}}, []byte{}
	want(t, "empty lists", b.Step(n), a.Step(m))
	c := servers([]int{1, 2}, []int{})
	wantStatus(t, fresh(t, 1, c), raft.Status{Conf: voters(1, 2)})
}

// R1: a CmdConf from elsewhere may name servers that can't be, and no voter at all: nothing panics, they are sent what they lack as nobody who answers is, and of voters that stand there twice each is asked once.
func TestServersThatCantBe(t *testing.T) {
	r := having(t, 1, voters(1, 2), confEntry(1, 1, servers([]int{7, 2, 1, 2, -3}, []int{5, 7})))
	o := candidate(t, r)
	vote := api.Msg{Kind: api.MsgVote, From: 1, Term: 2, Index: 1, LogTerm: 1}
	wantMsgs(t, "standing", o, sentTo(vote, -3, 2, 7)...)
	// It and the 2, which stands there twice, are three of five.
	o = r.Step(to(r, api.Msg{Kind: api.MsgVoted, From: 2}))
	first := []api.Entry{nop(2, 2)}
	m := api.Msg{Kind: api.MsgAppend, From: 1, Term: 2, Index: 1, LogTerm: 1, Entries: first}
	wantMsgs(t, "leading", o, sentTo(m, -3, 2, 5, 7)...)
	acked(r, 5, 2)
	acked(r, 2, 2)
	r.Tick(0)
	m.Commit = 2
	there := m
	there.Index, there.LogTerm, there.Entries = 2, 2, nil
	wantMsgs(t, "a beat", r.Tick(0), sentTo(m, -3)[0], sentTo(there, 2)[0], sentTo(there, 5)[0], sentTo(m, 7)[0])
	refusesProposal(t, r, toConf(voters(1, 2)), api.ErrServers)

	r = having(t, 1, voters(1, 2), confEntry(1, 1, api.Conf{}))
	for range 50 {
		want(t, "a tick of no servers", r.Tick(0), raft.Out{})
	}
}

// sentTo are copies of a message to each of these.
func sentTo(m api.Msg, list ...int) []api.Msg {
	var out []api.Msg
	for _, s := range list {
		m.To = s
		out = append(out, m)
	}
	return out
}
