package raftlog_test

import (
	"fmt"
	"math"
	"reflect"
	"testing"

	"coxswain/api"
	"coxswain/raftlog"
)

const most = api.MaxNumber

// command is one with something in each of its lists, new memory each time it is asked for; the mark tells it from others.
func command(mark int) api.Cmd {
	ask := api.Res{CPU: mark, Mem: 2 * mark}
	return api.Cmd{
		Op: api.CmdPlan, Client: 1, Req: mark,
		Job:     api.Job{ID: 2, Type: api.JobBatch, Priority: mark, Parallel: 3, Groups: []api.Group{{Count: mark, Ask: ask}, {Count: 4}}, Version: 5, Stopped: true},
		Node:    api.Node{ID: 6, Cap: ask, Up: true, Drain: true, Boot: mark, Epoch: -1, Seq: 7},
		Reports: []api.Report{{Alloc: mark, State: 8}, {Alloc: 9}},
		Plan:    api.Plan{Job: 10, Version: mark, Index: 11, Stops: []int{mark, 12}, Places: []api.Alloc{{ID: mark, Ask: ask, Stop: true}, {ID: 13}}, Blocked: true},
		Conf:    api.Conf{Voters: []int{mark, 14}, Learners: []int{15, mark}},
	}
}

// entry is one whose command hangs on its index and term, as in logs that have one leader a term.
func entry(index, term int) api.Entry {
	return api.Entry{Index: index, Term: term, Cmd: command(1000*(term%1000) + index%1000)}
}

// entries have these terms, and indexes from first on.
func entries(first int, terms ...int) []api.Entry {
	var out []api.Entry
	for i, term := range terms {
		out = append(out, entry(first+i, term))
	}
	return out
}

// made is a log with this base, and entries of these terms.
func made(t *testing.T, index, term int, terms ...int) *raftlog.Log {
	t.Helper()
	l := raftlog.New(index, term)
	if l == nil {
		t.Fatalf("New(%d, %d): nil", index, term)
	}
	for i, x := range entries(index+1, terms...) {
		put(t, l, x.Term, x.Cmd, entry(index+1+i, x.Term))
	}
	return l
}

// example is the log of the chapter's examples.
func example(t *testing.T) *raftlog.Log {
	t.Helper()
	return made(t, 0, 0, 1, 1, 2)
}

// alike takes lists of none and no lists as one, at every depth.
func alike(a, b any) bool {
	return reflect.DeepEqual(plain(a), plain(b))
}

// plain is a copy in which no list is empty but nil.
func plain(a any) any {
	from := reflect.ValueOf(a)
	out := reflect.New(from.Type()).Elem()
	plainInto(out, from)
	return out.Interface()
}

func plainInto(out, from reflect.Value) {
	switch from.Kind() {
	case reflect.Struct:
		for i := range from.NumField() {
			plainInto(out.Field(i), from.Field(i))
		}
	case reflect.Slice:
		if from.Len() > 0 {
			out.Set(reflect.MakeSlice(from.Type(), from.Len(), from.Len()))
		}
		for i := range from.Len() {
			plainInto(out.Index(i), from.Index(i))
		}
	default:
		out.Set(from)
	}
}

// short is of entries their indexes, terms and marks alone.
func short(list []api.Entry) string {
	out := "entries"
	for _, x := range list {
		out += fmt.Sprintf(" %d(%d; %d)", x.Index, x.Term, x.Cmd.Req)
	}
	return out
}

func base(t *testing.T, l *raftlog.Log, index, term int) {
	t.Helper()
	if i, j := l.Base(); i != index || j != term {
		t.Errorf("Base(): %d, %d; not %d, %d", i, j, index, term)
	}
}

func last(t *testing.T, l *raftlog.Log, index, term int) {
	t.Helper()
	if i, j := l.Last(); i != index || j != term {
		t.Errorf("Last(): %d, %d; not %d, %d", i, j, index, term)
	}
}

func termOf(t *testing.T, l *raftlog.Log, i, want int, e api.Errno) {
	t.Helper()
	if got, f := l.Term(i); got != want || f != e {
		t.Errorf("Term(%d): %d, %d; not %d, %d", i, got, f, want, e)
	}
}

func slice(t *testing.T, l *raftlog.Log, from, count int, want []api.Entry) {
	t.Helper()
	if got := l.Slice(from, count); !alike(got, want) {
		t.Errorf("Slice(%d, %d): %s; not %s", from, count, short(got), short(want))
	}
}

func accept(t *testing.T, l *raftlog.Log, index, term int, list []api.Entry, at int, ok bool) {
	t.Helper()
	if i, yes := l.Accept(index, term, list); i != at || yes != ok {
		t.Errorf("Accept(%d, %d, %s): %d, %v; not %d, %v", index, term, short(list), i, yes, at, ok)
	}
}

func put(t *testing.T, l *raftlog.Log, term int, c api.Cmd, want api.Entry) {
	t.Helper()
	if got, e := l.Put(term, c); e != api.OK || !alike(got, want) {
		t.Errorf("Put(%d): %s, %d; not %s", term, short([]api.Entry{got}), e, short([]api.Entry{want}))
	}
}

func refusesPut(t *testing.T, l *raftlog.Log, term int, want api.Errno) {
	t.Helper()
	if got, e := l.Put(term, command(1)); e != want || !alike(got, api.Entry{}) {
		t.Errorf("Put(%d): %v, %d; not error %d alone", term, got, e, want)
	}
}

func newer(t *testing.T, l *raftlog.Log, index, term int, want bool) {
	t.Helper()
	if got := l.Newer(index, term); got != want {
		t.Errorf("Newer(%d, %d): %v", index, term, got)
	}
}

func compact(t *testing.T, l *raftlog.Log, i int, want api.Errno) {
	t.Helper()
	if e := l.Compact(i); e != want {
		t.Errorf("Compact(%d): %d; not %d", i, e, want)
	}
}

// holds asks that a log has just this base and these entries.
func holds(t *testing.T, l *raftlog.Log, index, term int, want []api.Entry) {
	t.Helper()
	base(t, l, index, term)
	termOf(t, l, index, term, api.OK)
	slice(t, l, index+1, math.MaxInt, want)
	end, endTerm := index, term
	for _, x := range want {
		end, endTerm = x.Index, x.Term
		termOf(t, l, end, endTerm, api.OK)
	}
	last(t, l, end, endTerm)
	termOf(t, l, index-1, 0, api.ErrGone)
	termOf(t, l, end+1, 0, api.ErrEmpty)
}

// farNumbers are ones that no log may have.
func farNumbers() []int {
	return []int{math.MinInt, math.MinInt + 1, -most - 1, -most, -1, most + 1, most + 2, 1 << 62, math.MaxInt - 1, math.MaxInt}
}
