package raftlog_test

import (
	"math"
	"reflect"
	"testing"

	"coxswain/api"
	"coxswain/raftlog"
)

// spoil writes over all that is behind a pointer, at every depth, and over the spare room of its lists.
func spoil(p any) {
	spoilValue(reflect.ValueOf(p).Elem())
}

func spoilValue(v reflect.Value) {
	switch v.Kind() {
	case reflect.Struct:
		for i := range v.NumField() {
			spoilValue(v.Field(i))
		}
	case reflect.Slice:
		room := v.Slice(0, v.Cap())
		for i := range room.Len() {
			spoilValue(room.Index(i))
		}
	case reflect.Int:
		v.SetInt(v.Int() + 77)
	case reflect.Bool:
		v.SetBool(!v.Bool())
	default:
		panic(v.Kind())
	}
}

// lists are all lists behind a pointer, at every depth.
func lists(p any) []reflect.Value {
	return listsOf(reflect.ValueOf(p).Elem())
}

func listsOf(v reflect.Value) []reflect.Value {
	var out []reflect.Value
	switch v.Kind() {
	case reflect.Struct:
		for i := range v.NumField() {
			out = append(out, listsOf(v.Field(i))...)
		}
	case reflect.Slice:
		out = append(out, v)
		for i := range v.Len() {
			out = append(out, listsOf(v.Index(i))...)
		}
	}
	return out
}

// apart asks that no two lists behind these pointers have memory in common, the room behind them neither.
func apart(t *testing.T, what string, pointers ...any) {
	t.Helper()
	type stretch struct{ from, to uintptr }
	var seen []stretch
	for _, p := range pointers {
		for _, list := range lists(p) {
			from := list.Pointer()
			to := from + uintptr(list.Cap())*list.Type().Elem().Size()
			for _, s := range seen {
				if from < s.to && s.from < to {
					t.Fatalf("%s: two lists share memory", what)
				}
			}
			seen = append(seen, stretch{from, to})
		}
	}
}

// roomy gives each list of entries, and the list itself, spare room that is filled, all of it new memory.
func roomy(list []api.Entry) []api.Entry {
	out := widen(list, entry(555, 555))
	for i := range out {
		c := &out[i].Cmd
		c.Job.Groups = widen(c.Job.Groups, api.Group{Count: 555})
		c.Reports = widen(c.Reports, api.Report{Alloc: 555})
		c.Plan.Stops = widen(c.Plan.Stops, 555)
		c.Plan.Places = widen(c.Plan.Places, api.Alloc{ID: 555})
		c.Conf.Voters = widen(c.Conf.Voters, 555)
		c.Conf.Learners = widen(c.Conf.Learners, 555)
	}
	return out
}

func widen[T any](list []T, spare T) []T {
	out := append(append([]T{}, list...), spare, spare)
	return out[: len(list) : len(list)+2]
}

// unroomy lets the lists of entries have their spare room as a part of them, to be held against others.
func unroomy(list []api.Entry) []api.Entry {
	out := append([]api.Entry{}, list[:cap(list)]...)
	for i := range list {
		c := &out[i].Cmd
		c.Job.Groups = c.Job.Groups[:cap(c.Job.Groups)]
		c.Reports = c.Reports[:cap(c.Reports)]
		c.Plan.Stops = c.Plan.Stops[:cap(c.Plan.Stops)]
		c.Plan.Places = c.Plan.Places[:cap(c.Plan.Places)]
		c.Conf.Voters = c.Conf.Voters[:cap(c.Conf.Voters)]
		c.Conf.Learners = c.Conf.Learners[:cap(c.Conf.Learners)]
	}
	return out
}

// use calls much of a log: behind it nothing of the one that was is where it stood.
func use(l *raftlog.Log) {
	index, term := l.Last()
	for range 9 {
		l.Put(term+1, command(99))
	}
	l.Accept(index, term, []api.Entry{{Index: index + 1, Term: term + 2, Cmd: command(98)}, {Index: index + 2, Term: term + 2}})
	first, firstTerm := l.Base()
	l.Accept(first, firstTerm, []api.Entry{{Index: first + 1, Term: term + 3, Cmd: command(97)}, {Index: first + 2, Term: term + 3}, {Index: first + 3, Term: term + 3}})
	l.Compact(first + 2)
	l.Put(term+4, command(96))
	l.Compact(first + 4)
	l.Put(term+4, command(95))
}

// R4: what is handed to Accept stays as it was, its spare room too, be it taken, passed over or refused; behind later calls too.
func TestWhatAcceptIsHandedStays(t *testing.T) {
	for _, terms := range [][]int{{}, {3}, {3, 7}, {3, 7, 7, 8}, {9}, {3, 9, 9}, {3, 1}, {1}} {
		l := made(t, 4, 2, 2, 3, 7)
		list := roomy(entries(6, terms...))
		l.Accept(5, 2, list)
		if !alike(unroomy(list), unroomy(roomy(entries(6, terms...)))) {
			t.Fatalf("Accept(5, 2, %v) changed what it was handed", terms)
		}
		l.Accept(5, 3, list)
		l.Accept(9, 2, list)
		use(l)
		if !alike(unroomy(list), unroomy(roomy(entries(6, terms...)))) {
			t.Fatalf("calls behind Accept(5, 2, %v) changed what it was handed", terms)
		}
	}
}

// R4: what is handed to Accept is not kept.
func TestWhatAcceptIsHandedIsNotKept(t *testing.T) {
	for _, terms := range [][]int{{3, 7, 7, 8}, {9}, {3, 9, 9}} {
		l := made(t, 4, 2, 2, 3, 7)
		list := roomy(entries(6, terms...))
		l.Accept(5, 2, list)
		spoil(&list)
		holds(t, l, 4, 2, append(entries(5, 2), entries(6, terms...)...))
	}
	l := made(t, 0, 0)
	list := roomy(entries(1, 1, 2, 2))
	l.Accept(0, 0, list)
	l.Accept(2, 2, list[2:])
	spoil(&list)
	holds(t, l, 0, 0, entries(1, 1, 2, 2))
}

// R4: one list that is handed to two logs, or twice to one, is nobody's.
func TestOneListForTwoLogs(t *testing.T) {
	list := entries(1, 1, 1, 2)
	a, b := made(t, 0, 0), made(t, 0, 0)
	accept(t, a, 0, 0, list, 1, true)
	accept(t, b, 0, 0, list, 1, true)
	got := a.Slice(1, 9)
	spoil(&got)
	use(a)
	holds(t, b, 0, 0, entries(1, 1, 1, 2))
	same := command(5)
	put(t, b, 2, same, api.Entry{Index: 4, Term: 2, Cmd: command(5)})
	put(t, b, 2, same, api.Entry{Index: 5, Term: 2, Cmd: command(5)})
	got = b.Slice(4, 1)
	spoil(&got)
	slice(t, b, 5, 1, []api.Entry{{Index: 5, Term: 2, Cmd: command(5)}})
}

// R4: what is handed to Put stays and is not kept; what it answers is the caller's own.
func TestPutKeepsNothing(t *testing.T) {
	l := made(t, 0, 0)
	list := roomy(entries(1, 1))
	x, _ := l.Put(1, list[0].Cmd)
	apart(t, "Put", &list, &x)
	if !alike(unroomy(list), unroomy(roomy(entries(1, 1)))) {
		t.Fatal("Put changed what it was handed")
	}
	spoil(&list)
	if !alike(x, entry(1, 1)) {
		t.Fatal("Put's answer hangs on what was handed in")
	}
	holds(t, l, 0, 0, entries(1, 1))
	spoil(&x)
	holds(t, l, 0, 0, entries(1, 1))
	list = roomy(entries(1, 1))
	x, _ = l.Put(1, list[0].Cmd)
	use(l)
	if !alike(unroomy(list), unroomy(roomy(entries(1, 1)))) || !alike(x.Cmd, entry(1, 1).Cmd) {
		t.Fatal("later calls are seen in what Put was handed or answered")
	}
}

// R4: what Slice answers is the caller's own, of whatever part of the log.
func TestSliceIsTheCallers(t *testing.T) {
	terms := []int{2, 3, 3, 7, 9}
	for from := 5; from < 10; from++ {
		for count := 1; count < 7; count++ {
			l := made(t, 4, 2, terms...)
			got, again := l.Slice(from, count), l.Slice(from, count)
			apart(t, "Slice", &got, &again)
			spoil(&got)
			got = append(got, entry(1, 1))
			want := entries(from, terms[from-5:min(from-5+count, 5)]...)
			if !alike(again, want) {
				t.Fatalf("Slice(%d, %d): two answers share memory", from, count)
			}
			holds(t, l, 4, 2, entries(5, terms...))
			use(l)
			if !alike(again, want) {
				t.Fatalf("Slice(%d, %d): later calls are seen in the answer", from, count)
			}
		}
	}
}

// R4: an answer stays what it was behind each single call that changes the log.
func TestAnswersStayBehindEachCall(t *testing.T) {
	calls := []func(l *raftlog.Log){
		func(l *raftlog.Log) { l.Put(9, command(1)) },
		func(l *raftlog.Log) { l.Accept(4, 2, entries(5, 8, 8, 8)) },
		func(l *raftlog.Log) { l.Accept(5, 2, entries(6, 8)) },
		func(l *raftlog.Log) { l.Accept(6, 3, entries(7, 8, 9)) },
		func(l *raftlog.Log) { l.Accept(7, 7, entries(8, 9)) },
		func(l *raftlog.Log) { l.Compact(5) },
		func(l *raftlog.Log) { l.Compact(7) },
	}
	for i, call := range calls {
		for j, next := range calls {
			l := made(t, 4, 2, 2, 3, 7)
			first := l.Slice(5, 9)
			call(l)
			index, _ := l.Base()
			second := l.Slice(index+1, 9)
			want := plain(second)
			next(l)
			if !alike(first, entries(5, 2, 3, 7)) || !reflect.DeepEqual(plain(second), want) {
				t.Fatalf("call %d and call %d are seen in what was answered ahead of them", i, j)
			}
		}
	}
}

// R4: entries that went from log to log, as answered, belong to each alone.
func TestFromLogToLog(t *testing.T) {
	a, b := made(t, 0, 0, 1, 1, 2), made(t, 0, 0)
	accept(t, b, 0, 0, a.Slice(1, 9), 1, true)
	use(a)
	holds(t, b, 0, 0, entries(1, 1, 1, 2))
	x := entry(4, 3)
	put(t, b, 3, x.Cmd, x)
	c := made(t, 0, 0)
	accept(t, c, 0, 0, b.Slice(1, 9), 1, true)
	use(b)
	holds(t, c, 0, 0, entries(1, 1, 1, 2, 3))
}

// R4: a log's own entries, handed in to it again, are passed over, and may be spoilt then.
func TestItsOwnEntriesAgain(t *testing.T) {
	l := made(t, 0, 0, 1, 1, 2)
	got := l.Slice(1, 9)
	accept(t, l, 0, 0, got, 0, true)
	accept(t, l, 1, 1, append(got[1:2:2], entry(3, 4)), 3, true)
	spoil(&got)
	holds(t, l, 0, 0, entries(1, 1, 1, 4))
}

// R4: empty lists and nil ones are one, handed in at every depth.
func TestNilAndEmptyAreOne(t *testing.T) {
	empty := api.Cmd{Job: api.Job{Groups: []api.Group{}}, Reports: []api.Report{}, Plan: api.Plan{Stops: []int{}, Places: []api.Alloc{}}, Conf: api.Conf{Voters: []int{}, Learners: []int{}}}
	l := made(t, 0, 0)
	put(t, l, 1, empty, api.Entry{Index: 1, Term: 1})
	accept(t, l, 1, 1, []api.Entry{{Index: 2, Term: 1, Cmd: empty}, {Index: 3, Term: 1}}, 2, true)
	holds(t, l, 0, 0, []api.Entry{{Index: 1, Term: 1}, {Index: 2, Term: 1}, {Index: 3, Term: 1}})
	accept(t, l, 3, 1, []api.Entry{}, 0, true)
	accept(t, l, 3, 1, nil, 0, true)
	if len(l.Slice(4, 1)) != 0 || len(l.Slice(1, 0)) != 0 {
		t.Error("Slice where there is none")
	}
}

// R1: the least and the greatest numbers, of each call and in each place, end and do not panic.
func TestAnyNumbersAtAll(t *testing.T) {
	numbers := append(farNumbers(), 0, 1, 2, 4, 5, most-1, most)
	for _, l := range []*raftlog.Log{made(t, 0, 0), made(t, 0, 0, 1, 1), made(t, 4, 2, 2, 3), made(t, most-1, most, most), made(t, most, 1)} {
		index, term := l.Base()
		want := l.Slice(index+1, math.MaxInt)
		for _, a := range numbers {
			for _, b := range numbers {
				raftlog.New(a, b)
				l.Term(a)
				l.Slice(a, b)
				l.Newer(a, b)
				l.Accept(a, b, nil)
				if a > most || a < 0 {
					refusesPut(t, l, a, api.ErrArg)
					accept(t, l, a, b, []api.Entry{{Index: a + 1, Term: b}, {Index: a + 2, Term: b}}, 0, false)
					accept(t, l, index, term, []api.Entry{{Index: a, Term: b}}, 0, false)
					accept(t, l, index, term, []api.Entry{{Index: index + 1, Term: a}}, 0, false)
				}
			}
		}
		holds(t, l, index, term, want)
	}
}
