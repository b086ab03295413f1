package net_test

import (
	"math"
	"slices"
	"testing"

	"coxswain/api"
	"coxswain/net"
)

// TestExamples: the chapter's, one behind the other.
func TestExamples(t *testing.T) {
	const a, b = 1, 2
	n := made(t, 2, a, b)
	does(t, "Copy(0)", n.Copy(0))
	counts(t, n, 2)
	delivers(t, n, 1, a)
	if m, ok := n.Deliver(1); ok || !same(m, api.Msg{}) {
		t.Errorf("Deliver(1): %+v, %v", m, ok)
	}
	does(t, "Lose(0)", n.Lose(0))
	if n.Lose(0) {
		t.Error("Lose(0) of none: true")
	}
	if net.New(0) != nil || net.New(257) != nil {
		t.Error("New(0), New(257): not nil")
	}

	n = made(t, 2, a, b)
	does(t, "Copy(0)", n.Copy(0))
	holds(t, n, b, a)
}

// TestNewRefuses: P3.1: what is not 1 to MaxPackets, those among it that are within when they are cut to fewer bits.
func TestNewRefuses(t *testing.T) {
	if api.MaxPackets != 256 {
		t.Fatalf("MaxPackets: %d", api.MaxPackets)
	}
	for _, most := range []int{0, -1, -2, -256, -257, 257, 258, 512, 1<<16 + 1, 1<<32 + 1, 1<<40 + 1, math.MinInt, math.MinInt + 1, math.MaxInt} {
		if net.New(most) != nil {
			t.Errorf("New(%d): not nil", most)
		}
	}
}

// TestNew: P3.1: each net that may be has no packets, and room for just so many.
func TestNew(t *testing.T) {
	for most := 1; most <= 256; most++ {
		n := made(t, most)
		counts(t, n, 0)
		hasNone(t, n, 0)
		for i := range most + 1 {
			counts(t, n, i)
			if e := n.Send(api.Msg{Index: i}); e != api.OK {
				t.Fatalf("Send: %v", e)
			}
		}
		counts(t, n, most)
		for i := range most {
			if m, ok := n.Deliver(0); !ok || m.Index != i+1 {
				t.Fatalf("New(%d): the packet %d: %+v, %v", most, i, m, ok)
			}
		}
		counts(t, n, 0)
	}
}

// TestNetsAreApart: what one net has, no other has.
func TestNetsAreApart(t *testing.T) {
	n, other := made(t, 2, 1, 2), made(t, 3)
	counts(t, other, 0)
	send(t, other, 3, 4, 5)
	does(t, "Lose(0)", n.Lose(0))
	holds(t, other, 3, 4, 5)
	holds(t, n, 2)
}

// TestOrder: P3.1: packets stand in the order in which they came, also when others between them went.
func TestOrder(t *testing.T) {
	for k := range 5 {
		left := slices.Delete(upTo(0, 4), k, k+1)
		n := made(t, 5, upTo(0, 4)...)
		delivers(t, n, k, k)
		holds(t, n, left...)

		n = made(t, 5, upTo(0, 4)...)
		does(t, "Lose", n.Lose(k))
		holds(t, n, left...)

		n = made(t, 6, upTo(0, 4)...)
		does(t, "Copy", n.Copy(k))
		holds(t, n, append(upTo(0, 4), k)...)

		n = made(t, 5, upTo(0, 4)...)
		does(t, "Lose", n.Lose(k))
		send(t, n, 9)
		holds(t, n, append(left, 9)...)
	}
}

// TestOneMore: P3.2 and P3.3: of a net that is just full the first packet is lost, and no other, by Send and by Copy of each packet.
func TestOneMore(t *testing.T) {
	for _, most := range []int{1, 2, 3, 17, 255, 256} {
		n := made(t, most, upTo(1, most)...)
		counts(t, n, most)
		send(t, n, 0)
		holds(t, n, append(upTo(2, most), 0)...)

		for _, k := range []int{0, most / 2, most - 1} {
			n = made(t, most, upTo(1, most)...)
			does(t, "Copy", n.Copy(k))
			holds(t, n, append(upTo(2, most), k+1)...)
		}
	}
}

// TestNotYetFull: with room for one more nothing is lost, by Send and by Copy; behind that one it is.
func TestNotYetFull(t *testing.T) {
	for _, most := range []int{2, 3, 17, 256} {
		n := made(t, most, upTo(1, most-1)...)
		send(t, n, 0)
		holds(t, n, append(upTo(1, most-1), 0)...)

		n = made(t, most, upTo(1, most-1)...)
		does(t, "Copy(0)", n.Copy(0))
		counts(t, n, most)
		does(t, "Copy(last)", n.Copy(most-1))
		holds(t, n, append(upTo(2, most-1), 1, 1)...)
	}
}

// TestManyMore: however many come, the last ones are there.
func TestManyMore(t *testing.T) {
	for _, most := range []int{1, 2, 7, 256} {
		n := made(t, most, upTo(1, 3*most+1)...)
		holds(t, n, upTo(2*most+2, 3*most+1)...)

		n = made(t, most, upTo(1, most)...)
		var all []int
		for range 2 * most {
			does(t, "Copy(last)", n.Copy(most-1))
			all = append(all, most)
		}
		holds(t, n, all[:most]...)
	}
}

// TestRoomComesBack: a packet that was delivered or lost leaves its room to another.
func TestRoomComesBack(t *testing.T) {
	n := made(t, 2, 1, 2)
	for i := range 600 {
		if i%2 == 0 {
			delivers(t, n, 0, i+1)
		} else {
			does(t, "Lose(0)", n.Lose(0))
		}
		send(t, n, i+3)
		counts(t, n, 2)
	}
	holds(t, n, 601, 602)
}

// TestFirstAndLast: P3.3: the first and the last packet are there; the ones beside them are not.
func TestFirstAndLast(t *testing.T) {
	for _, most := range []int{1, 2, 3, 256} {
		last := most - 1
		n := made(t, most, upTo(0, last)...)
		hasNone(t, n, -1)
		hasNone(t, n, most)
		delivers(t, n, last, last)
		hasNone(t, n, last)
		counts(t, n, last)
		if last > 0 {
			delivers(t, n, 0, 0)
			counts(t, n, last-1)
		}

		n = made(t, most, upTo(0, last)...)
		does(t, "Lose(last)", n.Lose(last))
		hasNone(t, n, last)
		if last > 0 {
			does(t, "Lose(0)", n.Lose(0))
			holds(t, n, upTo(1, last-1)...)
		}
	}
}

// TestNoSuchPacket: P3.3: with no packet k nothing changes, whatever k is: of empty nets, of full ones, and of those that had more.
func TestNoSuchPacket(t *testing.T) {
	nets := []struct {
		of   func() *net.Net
		want []int
	}{
		{func() *net.Net { return made(t, 1) }, nil},
		{func() *net.Net { return made(t, 256) }, nil},
		{func() *net.Net { return made(t, 1, 1) }, []int{1}},
		{func() *net.Net { return made(t, 8, 1, 2) }, []int{1, 2}},
		{func() *net.Net { return made(t, 3, 1, 2, 3) }, []int{1, 2, 3}},
		{func() *net.Net {
			n := made(t, 4, 1, 2, 3, 4)
			does(t, "Lose(1)", n.Lose(1))
			delivers(t, n, 2, 4)
			return n
		}, []int{1, 3}},
	}
	for _, x := range nets {
		size := len(x.want)
		for _, k := range []int{-1, -2, -size, -size - 1, -256, math.MinInt, math.MinInt + 1, size, size + 1, size + 2, 255, 256, 257, 1 << 32, 1<<32 + 1, math.MaxInt} {
			if k == 0 {
				continue
			}
			n := x.of()
			hasNone(t, n, k)
			holds(t, n, x.want...)
		}
	}
}

// TestAllMayGo: one packet more is taken out than there are.
func TestAllMayGo(t *testing.T) {
	n := made(t, 4, 1, 2, 3)
	does(t, "Lose(2)", n.Lose(2))
	does(t, "Lose(0)", n.Lose(0))
	delivers(t, n, 0, 2)
	hasNone(t, n, 0)
	counts(t, n, 0)
	send(t, n, 4)
	holds(t, n, 4)
}

// TestZeroMessage: a message of nothing is a packet like another, told from none by the truth beside it.
func TestZeroMessage(t *testing.T) {
	n := made(t, 3)
	if e := n.Send(api.Msg{}); e != api.OK {
		t.Fatalf("Send of the zero message: %v", e)
	}
	does(t, "Copy(0)", n.Copy(0))
	counts(t, n, 2)
	for range 2 {
		if m, ok := n.Deliver(0); !ok || !same(m, api.Msg{}) {
			t.Fatalf("Deliver(0): %+v, %v", m, ok)
		}
	}
	hasNone(t, n, 0)
}
