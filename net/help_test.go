package net_test

import (
	"math/rand"
	"reflect"
	"testing"

	"coxswain/api"
	"coxswain/net"
)

// parts goes through every number, truth, byte and list of a message, a list ahead of what is in it.
func parts(v reflect.Value, do func(reflect.Value)) {
	switch v.Kind() {
	case reflect.Struct:
		for i := range v.NumField() {
			parts(v.Field(i), do)
		}
	case reflect.Slice:
		do(v)
		for i := range v.Len() {
			parts(v.Index(i), do)
		}
	default:
		do(v)
	}
}

func partsOf(m *api.Msg) []reflect.Value {
	var out []reflect.Value
	parts(reflect.ValueOf(m).Elem(), func(part reflect.Value) { out = append(out, part) })
	return out
}

// message is the message of a number, new memory each time it is asked for: a test keeps the number, and can't be misled by memory that is shared.
func message(number int) api.Msg {
	r := rand.New(rand.NewSource(int64(number)))
	var m api.Msg
	parts(reflect.ValueOf(&m).Elem(), func(part reflect.Value) {
		switch part.Kind() {
		case reflect.Int:
			part.SetInt(randomNumber(r))
		case reflect.Uint8:
			part.SetUint(uint64(r.Intn(256)))
		case reflect.Bool:
			part.SetBool(r.Intn(2) == 1)
		case reflect.Slice:
			if n := r.Intn(4); n > 0 {
				part.Set(reflect.MakeSlice(part.Type(), n, n))
			}
		}
	})
	// No two numbers have the same message.
	m.Ctx = number
	return m
}

func randomNumber(r *rand.Rand) int64 {
	edges := []int64{0, 1, -1, 100, api.MaxNumber, -api.MaxNumber}
	if r.Intn(2) == 0 {
		return edges[r.Intn(len(edges))]
	}
	return r.Int63n(2*api.MaxNumber+1) - api.MaxNumber
}

// full is a message with two of each list, and room for two more, all truths true, and no two numbers the same.
func full() api.Msg {
	var m api.Msg
	next := 0
	parts(reflect.ValueOf(&m).Elem(), func(part reflect.Value) {
		next++
		switch part.Kind() {
		case reflect.Int:
			part.SetInt(int64(next))
		case reflect.Uint8:
			part.SetUint(uint64(next % 256))
		case reflect.Bool:
			part.SetBool(true)
		case reflect.Slice:
			part.Set(reflect.MakeSlice(part.Type(), 2, 4))
		}
	})
	return m
}

// spoil turns over all that a message holds, at every depth, and the room behind its lists.
func spoil(m *api.Msg) {
	parts(reflect.ValueOf(m).Elem(), func(part reflect.Value) {
		switch part.Kind() {
		case reflect.Int:
			part.SetInt(-part.Int() - 1)
		case reflect.Uint8:
			part.SetUint(255 - part.Uint())
		case reflect.Bool:
			part.SetBool(!part.Bool())
		case reflect.Slice:
			part.SetLen(part.Cap())
		}
	})
}

// lay gives all lists of a message that have room for it this length.
func lay(m *api.Msg, size int) {
	parts(reflect.ValueOf(m).Elem(), func(part reflect.Value) {
		if part.Kind() == reflect.Slice && part.Cap() >= size {
			part.SetLen(size)
		}
	})
}

func same(a, b api.Msg) bool { return reflect.DeepEqual(a, b) }

// made is a net that is handed messages of these numbers.
func made(t *testing.T, most int, numbers ...int) *net.Net {
	t.Helper()
	n := net.New(most)
	if n == nil {
		t.Fatalf("New(%d): nil", most)
	}
	send(t, n, numbers...)
	return n
}

func send(t *testing.T, n *net.Net, numbers ...int) {
	t.Helper()
	for _, number := range numbers {
		if e := n.Send(message(number)); e != api.OK {
			t.Fatalf("Send(message %d): %v", number, e)
		}
	}
}

func counts(t *testing.T, n *net.Net, want int) {
	t.Helper()
	if got := n.Len(); got != want {
		t.Fatalf("Len() = %d, not %d", got, want)
	}
}

func delivers(t *testing.T, n *net.Net, k, number int) {
	t.Helper()
	if m, ok := n.Deliver(k); !ok || !same(m, message(number)) {
		t.Fatalf("Deliver(%d): %+v, %v; not message %d", k, m, ok, number)
	}
}

// holds asks that a net has just the packets of these numbers, in this order; it is empty then.
func holds(t *testing.T, n *net.Net, numbers ...int) {
	t.Helper()
	counts(t, n, len(numbers))
	for _, number := range numbers {
		delivers(t, n, 0, number)
	}
	counts(t, n, 0)
}

// hasNone asks of all three calls that there is no packet k.
func hasNone(t *testing.T, n *net.Net, k int) {
	t.Helper()
	if m, ok := n.Deliver(k); ok || !same(m, api.Msg{}) {
		t.Fatalf("Deliver(%d): %+v, %v; not no message and false", k, m, ok)
	}
	if n.Lose(k) {
		t.Fatalf("Lose(%d): true", k)
	}
	if n.Copy(k) {
		t.Fatalf("Copy(%d): true", k)
	}
}

func does(t *testing.T, what string, ok bool) {
	t.Helper()
	if !ok {
		t.Fatalf("%s: false", what)
	}
}

// upTo is the numbers from first to last.
func upTo(first, last int) []int {
	var out []int
	for i := first; i <= last; i++ {
		out = append(out, i)
	}
	return out
}
