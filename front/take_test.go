package front_test

import (
	"testing"

	"coxswain/front"
)

// P18.4: Take in the order in which it was done, across the three kinds, whoever came first.
func TestTakeAcrossTheKinds(t *testing.T) {
	h := fresh(t)
	h.passes(1, 1)
	h.waits(5, 1, 2)
	h.reads(3, 1)
	h.passes(4, 2)
	h.reads(5, 2)
	h.waits(4, 1, 6)
	h.Ready(1, 4)
	h.Ready(2, 4)
	h.Applied(entry(4, 1), result(1))
	h.Passed(2, result(2))
	h.Reads(storeAt(4))
	h.Applied(entry(5, 1), result(3))
	h.Passed(1, result(4))
	h.len(0)
	h.takes(whose(6, 4, 1), whose(4, 0, 2), sees(3, 4), sees(5, 4), whose(2, 5, 3), whose(1, 0, 4))
}

// P18.4: what is done between two Takes comes behind what was done before.
func TestTakeOneByOne(t *testing.T) {
	h := fresh(t)
	var want []front.Done
	for i := range 200 {
		h.passes(i, i+1)
		h.Passed(i+1, result(i))
		want = append(want, whose(i, 0, i))
		if i%3 == 0 {
			if d, ok := h.Take(); !ok || !alike(d, want[0]) {
				t.Fatalf("Take: %+v, %v, not %+v", d, ok, want[0])
			}
			want = want[1:]
		}
		h.len(0)
	}
	h.takes(want...)
}

// P18.4: nothing and false, if there is none, as often as it is asked.
func TestTakeOfNone(t *testing.T) {
	h := fresh(t)
	for range 5 {
		h.takes()
	}
	h.waits(1, 1, 1)
	h.reads(2, 1)
	h.passes(3, 1)
	h.takes()
	h.Passed(1, result(1))
	h.takes(whose(3, 0, 1))
	h.takes()
	h.len(2)
}

// finish has so many done, by one of the three ways, and tells who they are; the numbers go on from at.
func (h hand) finish(way, at, count int) []front.Done {
	h.Helper()
	var out []front.Done
	for i := at; i < at+count; i++ {
		switch way {
		case 0:
			h.waits(i, 1, i)
			h.Applied(entry(i, 1), result(i))
			out = append(out, whose(i, i, i))
		case 1:
			ctx, _ := h.Read(who(i))
			h.Ready(ctx, i)
			h.Reads(storeAt(i))
			out = append(out, sees(i, i))
		case 2:
			ctx, _ := h.Pass(who(i))
			h.Passed(ctx, result(i))
			out = append(out, whose(i, 0, i))
		}
	}
	return out
}

// P18.4: 255, 256 and 257 that are done and not taken, of each kind: 256 are kept, what comes behind is forgotten, and waits no more; Take makes room again.
func TestAsManyDoneAsAreKept(t *testing.T) {
	for way := range 3 {
		for _, count := range []int{maxDone - 1, maxDone, maxDone + 1, maxDone + 70} {
			h := fresh(t)
			want := h.finish(way, 1, count)
			h.len(0)
			want = want[:min(count, maxDone)]
			h.takes(want...)
			more := h.finish(way, 1000, maxDone+1)
			h.len(0)
			h.takes(more[:maxDone]...)
		}
		h := fresh(t)
		kept := h.finish(way, 1, maxDone)
		for i := range 3 * maxDone {
			h.finish((way+i)%3, 5000, 2)
			if d, ok := h.Take(); !ok || !alike(d, kept[0]) {
				t.Fatalf("Take: %+v, %v, not %+v", d, ok, kept[0])
			}
			kept = append(kept[1:], h.finish((way+i)%3, 1000+i, 1)...)
		}
		h.finish(way, 5000, 1)
		h.takes(kept...)
	}
}

// P18.4: of many that one call finishes, those that come first are kept; none of them waits any more.
func TestManyAtOnceWithoutRoom(t *testing.T) {
	for room := range 4 {
		h := fresh(t)
		want := h.finish(2, 1, maxDone-room)
		for i := range 5 {
			h.waits(7, 1, 500+i)
		}
		h.Applied(entry(7, 1), result(7))
		h.len(0)
		for i := range room {
			want = append(want, whose(500+i, 7, 7))
		}
		h.takes(want...)
		h.Applied(entry(7, 1), result(7))
		h.takes()

		want = h.finish(0, 1, maxDone-room)
		for i := range 5 {
			h.reads(600+i, i+1)
			h.Ready(i+1, i)
		}
		h.Reads(storeAt(9))
		h.len(0)
		for i := range room {
			want = append(want, sees(600+i, 9))
		}
		h.takes(want...)
		h.Reads(storeAt(9))
		h.takes()
	}
}

// P18.4: Len is how many wait, of all three kinds; who is done does not wait, and who is taken did not.
func TestLen(t *testing.T) {
	h := fresh(t)
	for i := range 10 {
		h.waits(i/2, 1, i)
		h.len(3*i + 1)
		h.reads(i, i+1)
		h.len(3*i + 2)
		h.passes(i, i+1)
		h.len(3*i + 3)
	}
	h.Applied(entry(2, 1), result(1))
	h.len(28)
	h.Applied(entry(3, 7), result(1))
	h.len(26)
	h.Applied(entry(9, 1), result(1))
	h.len(26)
	h.Ready(3, 4)
	h.Ready(4, 5)
	h.len(26)
	h.Reads(storeAt(4))
	h.len(25)
	h.Unread(9)
	h.len(24)
	h.Passed(6, result(1))
	h.len(23)
	for range 4 {
		if _, ok := h.Take(); !ok {
			t.Fatal("Take: none")
		}
		h.len(23)
	}
	h.takes()
	h.Drop()
	h.len(15)
	h.Drop()
	h.len(15)
}
