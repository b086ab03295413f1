package heap_test

import (
	"runtime"
	"slices"
	"sync/atomic"
	"testing"

	"coxswain/heap"
)

// P5.1, the chapter's examples: numbers, less by their tens.
func TestExamplesOfTheHeap(t *testing.T) {
	told(t, "Pop", popAll(t, heapOf[tens](12, 31, 11, 13)), 12, 11, 13, 31)

	h := heapOf[tens](12, 31, 11, 13)
	removed(t, h, 19, 3)
	told(t, "Pop", popAll(t, h), 31)
}

// P5.1: with nothing in it, the zero thing and false; again and again, and Remove takes none out.
func TestNothingInIt(t *testing.T) {
	h := heap.New[tens]()
	if h == nil {
		t.Fatal("New: nil")
	}
	for range 3 {
		nothing(t, h)
		removed(t, h, 0, 0)
	}
	h.Push(7)
	told(t, "Pop", popAll(t, h), 7)
	nothing(t, h)
	h.Push(8)
	removed(t, h, 8, 1)
	nothing(t, h)
	h.Push(9)
	told(t, "Pop", popAll(t, h), 9)
}

// P5.1: one thing, the zero thing too, which true alone tells from none.
func TestOneThing(t *testing.T) {
	for _, x := range []tens{0, 1, -40, 1 << 40} {
		h := heapOf(x)
		for range 3 {
			if got, ok := h.Peek(); !ok || got != x || h.Len() != 1 {
				t.Fatalf("Peek: %d, %v; %d things", got, ok, h.Len())
			}
		}
		told(t, "Pop", popAll(t, h), x)
	}
}

// P5.1: New is another heap each time.
func TestHeapsAreApart(t *testing.T) {
	a, b := heapOf[tens](10), heap.New[tens]()
	b.Push(20)
	removed(t, a, 20, 0)
	told(t, "Pop of one", popAll(t, a), 10)
	told(t, "Pop of the other", popAll(t, b), 20)
}

// What follows: things that are pushed and popped come rising, in whatever order they came.
func TestThingsComeRising(t *testing.T) {
	const count = 1000
	var want, falling, between []tens
	for i := range count {
		want = append(want, tens(10*i))
		falling = append(falling, tens(10*(count-1-i)))
		between = append(between, tens(10*(i*617%count)))
	}
	told(t, "rising", popAll(t, heapOf(want...)), want...)
	told(t, "falling", popAll(t, heapOf(falling...)), want...)
	told(t, "in between", popAll(t, heapOf(between...)), want...)
}

// P5.1, What follows: each order of a few things, some of them equal.
func TestEachOrderOfAFew(t *testing.T) {
	var each func(head, rest []tens)
	each = func(head, rest []tens) {
		if len(rest) == 0 {
			want := slices.Clone(head)
			slices.SortStableFunc(want, func(a, b tens) int { return int(a/10 - b/10) })
			told(t, "Pop", popAll(t, heapOf(head...)), want...)
			return
		}
		for i, x := range rest {
			each(append(slices.Clone(head), x), slices.Delete(slices.Clone(rest), i, i+1))
		}
	}
	each(nil, []tens{10, 20, 21, 22, 30, 31, 40})
}

// What follows: equal ones come in the order in which they came, however many.
func TestManyEqualThings(t *testing.T) {
	h := heap.New[visit]()
	for i := range 1000 {
		h.Push(visit{day: 3, who: []string{string(rune('a' + i%26))}, hour: 4})
		h.Push(visit{day: i % 2, hour: i % 3, who: []string{"x"}})
	}
	removed(t, h, visit{day: 0, hour: 0}, 167)
	for i := range 833 {
		if v, ok := h.Pop(); !ok || v.day > 1 {
			t.Fatalf("Pop %d: %v, %v", i, v, ok)
		}
	}
	for i := range 1000 {
		v, ok := h.Pop()
		if !ok || v.day != 3 || v.hour != 4 || len(v.who) != 1 || v.who[0] != string(rune('a'+i%26)) {
			t.Fatalf("Pop %d: %v, %v", i, v, ok)
		}
	}
	told(t, "Pop", popAll(t, heapOf[tens](17, 12, 19, 12, 10, 11)), 17, 12, 19, 12, 10, 11)
}

// P5.1: pushes between pops; an equal thing that comes later goes behind those that are there, a lesser one ahead of them.
func TestPushesBetweenPops(t *testing.T) {
	h := heapOf[tens](25, 21, 33)
	var got []tens
	pop := func() {
		x, ok := h.Pop()
		if !ok {
			t.Fatal("Pop: none")
		}
		got = append(got, x)
	}
	pop()
	h.Push(24)
	h.Push(20)
	pop()
	h.Push(13)
	h.Push(11)
	pop()
	h.Push(12)
	h.Push(32)
	for h.Len() > 0 {
		pop()
	}
	told(t, "Pop", got, 25, 21, 13, 11, 12, 24, 20, 33, 32)
	nothing(t, h)
}

// P5.1: Peek takes nothing out.
func TestPeekLeavesAll(t *testing.T) {
	h := heapOf[tens](31, 22, 21)
	for range 5 {
		if x, ok := h.Peek(); !ok || x != 22 || h.Len() != 3 {
			t.Fatalf("Peek: %d, %v; %d things", x, ok, h.Len())
		}
	}
	h.Push(10)
	if x, ok := h.Peek(); !ok || x != 10 {
		t.Fatalf("Peek: %d, %v", x, ok)
	}
	told(t, "Pop", popAll(t, h), 10, 22, 21, 31)
}

// P5.1: Remove of none, of some, and of all.
func TestRemove(t *testing.T) {
	things := []tens{12, 31, 11, 25, 13, 38, 24, 17}
	h := heapOf(things...)
	for _, x := range []tens{0, 9, 40, 99, -10} {
		removed(t, h, x, 0)
	}
	told(t, "none", popAll(t, h), 12, 11, 13, 17, 25, 24, 31, 38)

	h = heapOf(things...)
	removed(t, h, 10, 4)
	removed(t, h, 10, 0)
	told(t, "the least", popAll(t, h), 25, 24, 31, 38)

	h = heapOf(things...)
	removed(t, h, 29, 2)
	told(t, "those between", popAll(t, h), 12, 11, 13, 17, 31, 38)

	h = heapOf(things...)
	removed(t, h, 30, 2)
	told(t, "the greatest", popAll(t, h), 12, 11, 13, 17, 25, 24)

	h = heapOf(things...)
	removed(t, h, 20, 2)
	removed(t, h, 30, 2)
	removed(t, h, 10, 4)
	nothing(t, h)

	h = heapOf[tens](50, 51, 52)
	removed(t, h, 55, 3)
	nothing(t, h)
}

// P5.1: what is in the heap need not be what is handed to Remove; all equal things go, wherever they stand.
func TestRemoveOfEachPlace(t *testing.T) {
	for count := 1; count <= 20; count++ {
		for gone := range count {
			h := heap.New[tens]()
			var want []tens
			for i := range count {
				x := tens(10 * (i * 7 % 23))
				h.Push(x + 3)
				if i != gone {
					want = append(want, x+3)
				}
			}
			removed(t, h, tens(10*(gone*7%23))+9, 1)
			slices.Sort(want)
			told(t, "Pop", popAll(t, h), want...)
		}
	}
}

// P5.1: the others stay as they stand behind a Remove, eldest first among equals, and behind more pushes too.
func TestOrderOfEqualThingsBehindARemove(t *testing.T) {
	h := heapOf[tens](34, 11, 32, 12, 33, 10, 31, 21)
	removed(t, h, 15, 3)
	h.Push(30)
	h.Push(22)
	h.Push(39)
	h.Push(13)
	told(t, "Pop", popAll(t, h), 13, 21, 22, 34, 32, 33, 31, 30, 39)

	h = heap.New[tens]()
	var want []tens
	for i := range 300 {
		h.Push(tens(10 * (i % 5)))
		h.Push(tens(1000 + i%10))
		want = append(want, tens(1000+i%10))
	}
	for k := range 5 {
		removed(t, h, tens(10*k+k), 60)
		h.Push(tens(1000 + k))
		want = append(want, tens(1000+k))
	}
	told(t, "Pop", popAll(t, h), want...)
}

// P5.1: things that are pushed again behind a Remove of their likes are in it, and are the youngest.
func TestPushAgain(t *testing.T) {
	h := heapOf[tens](11, 21, 12)
	removed(t, h, 10, 2)
	h.Push(12)
	h.Push(11)
	h.Push(12)
	told(t, "Pop", popAll(t, h), 12, 11, 12, 21)
}

// The chapter's head: things of any type.
func TestThingsOfSeveralTypes(t *testing.T) {
	told(t, "words", popAll(t, heapOf[word]("b", "", "ab", "a", "b")), "", "a", "ab", "b", "b")

	v := heapOf(visit{2, 1, nil}, visit{1, 9, []string{"a", "b"}}, visit{1, 2, []string{"c"}})
	var who []string
	for v.Len() > 0 {
		x, _ := v.Pop()
		who = append(who, x.who...)
	}
	told(t, "visits", who, "c", "a", "b")
	if x, ok := v.Pop(); ok || x.day != 0 || x.hour != 0 || x.who != nil {
		t.Fatalf("Pop of none: %v, %v", x, ok)
	}

	a, b, c := &card{rank: 2}, &card{rank: 1}, &card{rank: 2}
	told(t, "pointers", popAll(t, heapOf(a, b, c)), b, a, c)
	h := heapOf(a, b, c)
	removed(t, h, &card{rank: 2}, 2)
	told(t, "pointers", popAll(t, h), b)

	told[beast](t, "an interface", popAll(t, heapOf[beast](mouse(3), mouse(1), mouse(2))), mouse(1), mouse(2), mouse(3))
}

// P5.1: what is in a heap, or was, is not changed by it.
func TestThingsAreLeftAsTheyAre(t *testing.T) {
	who := make([]string, 1, 4)
	who[0] = "a"
	h := heapOf(visit{1, 1, who})
	h.Push(visit{1, 0, []string{"b"}})
	removed(t, h, visit{1, 0, nil}, 1)
	if x, ok := h.Pop(); !ok || len(x.who) != 1 || cap(x.who) != 4 || x.who[0] != "a" {
		t.Fatalf("Pop: %v, %v", x, ok)
	}
	told(t, "what was handed in", who[:4], "a", "", "", "")
}

// Rule 8 of the language: what is in a heap no more is not kept by it, in no spare room.
func TestWhatIsGoneIsNotKept(t *testing.T) {
	h := heap.New[*card]()
	var gone atomic.Int32
	for i := range 64 {
		c := &card{rank: i / 8}
		runtime.AddCleanup(c, func(int) { gone.Add(1) }, 0)
		h.Push(c)
	}
	for range 16 {
		h.Pop()
	}
	removed(t, h, &card{rank: 7}, 8)
	removed(t, h, &card{rank: 4}, 8)
	if !collected(func() bool { return gone.Load() == 32 }) {
		t.Fatalf("of 32 things %d are gone", gone.Load())
	}
	if h.Len() != 32 {
		t.Fatalf("Len: %d", h.Len())
	}
}
