package broker_test

import (
	"testing"

	"coxswain/broker"
)

// The chapter's example, call by call.
func TestExample(t *testing.T) {
	one, two, three := eval(1, 50, 4), eval(2, 70, 9), eval(3, 70, 8)
	h := ask(t, one, two, three)
	h.items(3)
	h.gets(1, three)
	h.getsNone(1)
	h.gets(2, two)
	if e := h.Ack(1); e != ok {
		t.Fatalf("Ack(1): %d", e)
	}
	if e := h.Ack(1); e != errEmpty {
		t.Fatalf("Ack(1) once more: %d", e)
	}
	h.items(2)
	if e := h.Nack(2); e != ok {
		t.Fatalf("Nack(2): %d", e)
	}
	h.gets(2, two)
	if e := h.Nack(2); e != ok {
		t.Fatalf("Nack(2) once more: %d", e)
	}
	h.gets(2, two)
	if e := h.Nack(2); e != ok {
		t.Fatalf("the third Nack(2): %d", e)
	}
	h.items(2)
	h.gets(2, one)
	h.items(2)
	h.getsNone(1)
}

// P15.1: New is without items, of which nothing can be had, and each is one of its own.
func TestNew(t *testing.T) {
	h := hand{t, broker.New()}
	h.items(0)
	h.getsNone(farNumbers()...)
	h.refused(farNumbers()...)
	h.ticks(20)
	h.told()
	h.items(0)
	h.getsNone(0, 1)

	other := hand{t, broker.New()}
	h.told(eval(1, 1, 1))
	h.gets(1, eval(1, 1, 1))
	other.items(0)
	other.refused(1)
	other.told(eval(2, 2, 2), eval(3, 1, 1))
	other.gets(1, eval(2, 2, 2))
	h.items(1)
	h.has(1, eval(1, 1, 1))
	h.getsNone(2)
}
