package net_test

import (
	"math/rand"
	"testing"

	"coxswain/api"
	"coxswain/net"
)

// model is a net as the chapter's words tell it: of each packet the number of its message.
type model struct {
	most    int
	packets []int
}

func (m *model) add(number int) {
	m.packets = append(m.packets[:len(m.packets):len(m.packets)], number)
	if len(m.packets) > m.most {
		m.packets = m.packets[1:]
	}
}

func (m *model) without(k int) {
	var left []int
	for i, number := range m.packets {
		if i != k {
			left = append(left, number)
		}
	}
	m.packets = left
}

// pick is a packet's place, those beside the first and the last often among them.
func (m *model) pick(r *rand.Rand) int {
	if r.Intn(4) == 0 {
		return []int{-1, 0, len(m.packets) - 1, len(m.packets), len(m.packets) + 1}[r.Intn(5)]
	}
	return r.Intn(m.most+3) - 1
}

// step does one random thing to both, and holds what they answer against each other.
func (m *model) step(t *testing.T, r *rand.Rand, n *net.Net, number int) {
	t.Helper()
	k := m.pick(r)
	there := k >= 0 && k < len(m.packets)
	switch r.Intn(7) {
	case 0, 1, 2:
		sent := message(number)
		if e := n.Send(sent); e != api.OK {
			t.Fatalf("Send: %v", e)
		}
		spoil(&sent)
		m.add(number)
	case 3:
		if e := n.Send(api.Msg{Commit: api.MaxNumber + 1 + r.Intn(9)}); e != api.ErrArg {
			t.Fatalf("Send of one that may not be: %v", e)
		}
	case 4:
		got, ok := n.Deliver(k)
		var want api.Msg
		if there {
			want = message(m.packets[k])
			m.without(k)
		}
		if ok != there || !same(got, want) {
			t.Fatalf("Deliver(%d): %+v, %v; not %+v, %v", k, got, ok, want, there)
		}
		spoil(&got)
	case 5:
		if ok := n.Lose(k); ok != there {
			t.Fatalf("Lose(%d): %v", k, ok)
		}
		m.without(k)
	case 6:
		if ok := n.Copy(k); ok != there {
			t.Fatalf("Copy(%d): %v", k, ok)
		}
		if there {
			m.add(m.packets[k])
		}
	}
	counts(t, n, len(m.packets))
}

// TestAgainstModel: random scripts of all lengths, on nets of all kinds of room; what is left in the end is delivered.
func TestAgainstModel(t *testing.T) {
	for seed := range 1500 {
		r := rand.New(rand.NewSource(int64(seed)))
		m := &model{most: 1 + r.Intn(12)}
		if seed%50 == 0 {
			m.most = 256
		}
		n := made(t, m.most)
		for i := range r.Intn(4*m.most + 40) {
			m.step(t, r, n, i)
		}
		holds(t, n, m.packets...)
	}
}
