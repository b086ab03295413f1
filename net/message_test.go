package net_test

import (
	"math"
	"math/rand"
	"reflect"
	"slices"
	"testing"

	"coxswain/api"
)

const (
	maxList  = 64
	maxBytes = 65536
)

// passes asks that a message is sent, doubled, and delivered just as it is.
func passes(t *testing.T, m api.Msg, what string) {
	t.Helper()
	n := made(t, 2)
	if e := n.Send(m); e != api.OK {
		t.Fatalf("Send with %s: %v", what, e)
	}
	does(t, "Copy(0)", n.Copy(0))
	for range 2 {
		if got, ok := n.Deliver(0); !ok || !same(got, m) {
			t.Fatalf("Deliver of one with %s: %+v, %v; not %+v", what, got, ok, m)
		}
	}
}

// refuses asks that a message may not be sent, and that nothing has changed then, also of a net that is full.
func refuses(t *testing.T, m api.Msg, what string) {
	t.Helper()
	for _, most := range []int{2, 3} {
		n := made(t, most, 1, 2)
		if e := n.Send(m); e != api.ErrArg {
			t.Fatalf("Send with %s: %v; not ErrArg", what, e)
		}
		holds(t, n, 1, 2)
	}
	n := made(t, 1)
	if e := n.Send(m); e != api.ErrArg || n.Len() != 0 {
		t.Fatalf("Send with %s to an empty net: %v, Len %d", what, e, n.Len())
	}
}

// listOf is so many copies of a list's first item.
func listOf(list reflect.Value, size int) reflect.Value {
	out := reflect.MakeSlice(list.Type(), size, size)
	for i := range size {
		out.Index(i).Set(list.Index(0))
	}
	return out
}

// TestNumbers: P3.2: each number of a message, at every depth, at the edges of what may be written and beyond them.
func TestNumbers(t *testing.T) {
	m := full()
	for _, part := range partsOf(&m) {
		if part.Kind() != reflect.Int {
			continue
		}
		was := part.Int()
		for _, number := range []int64{api.MaxNumber, -api.MaxNumber, 0, -1} {
			part.SetInt(number)
			passes(t, m, "a number at the edge")
		}
		for _, number := range []int64{api.MaxNumber + 1, -api.MaxNumber - 1, math.MaxInt64, math.MinInt64} {
			part.SetInt(number)
			refuses(t, m, "a number that may not be")
		}
		part.SetInt(was)
	}
}

// TestLists: P3.2: each list of a message, at every depth, with as many as may be written and with one more.
func TestLists(t *testing.T) {
	m := full()
	for _, part := range partsOf(&m) {
		if part.Kind() != reflect.Slice {
			continue
		}
		most := maxList
		if part.Type().Elem().Kind() == reflect.Uint8 {
			most = maxBytes
		}
		was := reflect.ValueOf(part.Interface())
		part.Set(listOf(was, most))
		passes(t, m, "a list as long as may be")
		for _, more := range []int{1, 2, 200000} {
			part.Set(listOf(was, most+more))
			refuses(t, m, "a list that is too long")
		}
		part.Set(was)
	}
}

// TestTruths: each truth either way.
func TestTruths(t *testing.T) {
	m := full()
	for _, part := range partsOf(&m) {
		if part.Kind() == reflect.Bool {
			part.SetBool(false)
			passes(t, m, "a truth turned over")
			part.SetBool(true)
		}
	}
}

// TestKinds: each kind of message there is may be sent, and any other number in its place: a net does not ask what a message says.
func TestKinds(t *testing.T) {
	for kind := api.MsgVote - 2; kind <= api.MsgBeaten+2; kind++ {
		m := full()
		m.Kind = kind
		passes(t, m, "a kind")
		passes(t, api.Msg{Kind: kind, From: 1, To: 101}, "a kind alone")
		m.Term = api.MaxNumber + 1
		refuses(t, m, "a term that may not be")
	}
}

// TestSendersMessage: what is delivered was sent, just as it was, whatever its sender does with the message afterwards, the room behind its lists among it.
func TestSendersMessage(t *testing.T) {
	m := full()
	n := made(t, 4)
	if e := n.Send(m); e != api.OK {
		t.Fatalf("Send: %v", e)
	}
	does(t, "Copy(0)", n.Copy(0))
	spoil(&m)
	does(t, "Copy(0) of a message that was changed", n.Copy(0))
	for range 3 {
		if got, ok := n.Deliver(0); !ok || !same(got, full()) {
			t.Fatalf("a packet changes with its sender's message: %+v", got)
		}
	}
}

// TestSentTwice: one message, changed between two Sends, is two packets.
func TestSentTwice(t *testing.T) {
	m := api.Msg{Kind: api.MsgSnap, Data: []byte("one")}
	n := made(t, 2)
	n.Send(m)
	copy(m.Data, "two")
	n.Send(m)
	for _, want := range []string{"one", "two"} {
		if got, ok := n.Deliver(0); !ok || string(got.Data) != want {
			t.Fatalf("Deliver(0): %q, %v; not %q", got.Data, ok, want)
		}
	}
}

// TestReceiversMessage: one that was delivered and is changed changes no packet and no other message.
func TestReceiversMessage(t *testing.T) {
	sent := full()
	n := made(t, 4)
	n.Send(sent)
	does(t, "Copy(0)", n.Copy(0))
	does(t, "Copy(1)", n.Copy(1))
	first, _ := n.Deliver(1)
	second, _ := n.Deliver(0)
	spoil(&first)
	if !same(sent, full()) || !same(second, full()) {
		t.Fatal("what was delivered shares memory with what was sent, or with another")
	}
	if third, ok := n.Deliver(0); !ok || !same(third, full()) {
		t.Fatalf("a packet changes with a message that was delivered: %+v", third)
	}
}

// TestListsAreApart: no two lists of a message that is delivered share memory, the room behind them among it: what stands twice would be turned over twice, and be as it was.
func TestListsAreApart(t *testing.T) {
	n := made(t, 1)
	n.Send(full())
	got, _ := n.Deliver(0)
	want := full()
	spoil(&got)
	spoil(&want)
	lay(&got, 2)
	lay(&want, 2)
	if !same(got, want) {
		t.Fatal("two lists of one message share memory")
	}
}

// TestHandedInStays: no call changes the message that was handed in, nor the room behind its lists.
func TestHandedInStays(t *testing.T) {
	m, n := full(), made(t, 2)
	n.Send(m)
	n.Copy(0)
	n.Copy(0)
	got, _ := n.Deliver(0)
	spoil(&got)
	n.Lose(0)
	if !same(m, full()) {
		t.Fatal("what was handed in has changed")
	}
	want := full()
	lay(&m, 4)
	lay(&want, 4)
	if !same(m, want) {
		t.Fatal("the room behind what was handed in has changed")
	}
}

// TestNilAndEmpty: nil and empty lists are one: what is delivered of either is the same.
func TestNilAndEmpty(t *testing.T) {
	var empty api.Msg
	parts(reflect.ValueOf(&empty).Elem(), func(part reflect.Value) {
		if part.Kind() == reflect.Slice {
			part.Set(reflect.MakeSlice(part.Type(), 0, 3))
		}
	})
	n := made(t, 2)
	n.Send(empty)
	n.Send(api.Msg{})
	a, okA := n.Deliver(0)
	b, okB := n.Deliver(0)
	if !okA || !okB || !same(a, b) || len(a.Entries)+len(a.Data)+len(a.Conf.Voters) != 0 {
		t.Fatalf("%+v, %v; %+v, %v", a, okA, b, okB)
	}
}

// TestAnyOrder: a packet that is not lost may be delivered, in whatever order.
func TestAnyOrder(t *testing.T) {
	for seed := range 50 {
		r := rand.New(rand.NewSource(int64(seed)))
		deliversInOrder(t, r.Perm(1+r.Intn(256)))
	}
	for _, order := range [][]int{{0, 1, 2}, {0, 2, 1}, {1, 0, 2}, {1, 2, 0}, {2, 0, 1}, {2, 1, 0}} {
		deliversInOrder(t, order)
	}
}

// deliversInOrder sends the messages 0, 1 and so on, and has them delivered in this order.
func deliversInOrder(t *testing.T, order []int) {
	t.Helper()
	there := upTo(0, len(order)-1)
	n := made(t, len(order), there...)
	for _, number := range order {
		k := slices.Index(there, number)
		delivers(t, n, k, number)
		there = slices.Delete(there, k, k+1)
		counts(t, n, len(there))
	}
	hasNone(t, n, 0)
}
