package heap_test

import (
	"math"
	"runtime"
	"sync"
	"sync/atomic"
	"testing"

	"coxswain/heap"
)

// P5.2, the chapter's example.
func TestExampleOfTheMailbox(t *testing.T) {
	b := heap.NewBox[string](2)
	put(t, b, "a", true)
	put(t, b, "b", true)
	put(t, b, "c", false)
	taken(t, b, "a")
	put(t, b, "c", true)
	taken(t, b, "b")
	taken(t, b, "c")
	takesNone(t, b)
}

// P5.2: nil, if room is not 1 to 1024.
func TestRoomOfAMailbox(t *testing.T) {
	for _, room := range []int{0, 1025, 1026, 2048, 1 << 40, math.MaxInt, -1, -2, -1024, math.MinInt} {
		if heap.NewBox[int](room) != nil || heap.NewBox[string](room) != nil {
			t.Errorf("NewBox(%d) is one", room)
		}
	}
	for _, room := range []int{1, 2, 1023, 1024} {
		b := heap.NewBox[int](room)
		if b == nil {
			t.Fatalf("NewBox(%d): nil", room)
		}
		takesNone(t, b)
	}
}

// P5.2: of each room just as many go in, and not one more; they come in the order in which they were put; an emptied one is filled again.
func TestFullAndEmptiedAndFullAgain(t *testing.T) {
	for _, room := range []int{1, 2, 3, 10, 1023, 1024} {
		b := heap.NewBox[int](room)
		for round := range 3 {
			for i := range room {
				put(t, b, 10000*round+i, true)
			}
			put(t, b, -1, false)
			put(t, b, -2, false)
			for i := range room {
				taken(t, b, 10000*round+i)
				if b.Len() != room-1-i {
					t.Fatalf("Len: %d, not %d", b.Len(), room-1-i)
				}
			}
			takesNone(t, b)
			takesNone(t, b)
		}
	}
}

// P5.2: each thing that is taken leaves room for one, and for one alone.
func TestOneOutOneIn(t *testing.T) {
	for _, room := range []int{1, 4, 1024} {
		b := heap.NewBox[int](room)
		for i := range room {
			put(t, b, i, true)
		}
		for i := range 3 * room {
			taken(t, b, i)
			put(t, b, room+i, true)
			put(t, b, -1, false)
		}
		for i := range room {
			taken(t, b, 3*room+i)
		}
		takesNone(t, b)
	}
}

// P5.2: the zero thing is one too, which true alone tells from none.
func TestTheZeroThing(t *testing.T) {
	b := heap.NewBox[int](1)
	put(t, b, 0, true)
	put(t, b, 0, false)
	taken(t, b, 0)
	takesNone(t, b)

	p := heap.NewBox[*int](2)
	put(t, p, nil, true)
	taken(t, p, nil)
	takesNone(t, p)

	e := heap.NewBox[struct{}](2)
	put(t, e, struct{}{}, true)
	put(t, e, struct{}{}, true)
	put(t, e, struct{}{}, false)
	taken(t, e, struct{}{})
	taken(t, e, struct{}{})
	takesNone(t, e)
}

// The chapter's head: things of any type, great ones too.
func TestMailboxesOfSeveralTypes(t *testing.T) {
	a := heap.NewBox[any](4)
	put[any](t, a, "a", true)
	put[any](t, a, nil, true)
	put[any](t, a, 3, true)
	taken[any](t, a, "a")
	taken[any](t, a, nil)
	taken[any](t, a, 3)
	takesNone(t, a)

	v := heap.NewBox[visit](1)
	who := make([]string, 1, 3)
	who[0] = "x"
	put(t, v, visit{1, 2, who}, true)
	if x, ok := v.Take(); !ok || x.day != 1 || x.hour != 2 || len(x.who) != 1 || x.who[0] != "x" {
		t.Fatalf("Take: %v, %v", x, ok)
	}
	if x, ok := v.Take(); ok || x.day != 0 || x.hour != 0 || x.who != nil {
		t.Fatalf("Take of none: %v, %v", x, ok)
	}
	told(t, "what was handed in", who[:3], "x", "", "")

	f := heap.NewBox[func() int](1)
	put(t, f, func() int { return 8 }, true)
	if x, ok := f.Take(); !ok || x() != 8 {
		t.Fatal("Take of a function")
	}
	if x, ok := f.Take(); ok || x != nil {
		t.Fatal("Take of none")
	}

	type page [100000]byte
	g := heap.NewBox[page](1024)
	var x page
	x[99999] = 1
	put(t, g, x, true)
	x[99999] = 2
	put(t, g, x, true)
	for i := range 2 {
		if y, ok := g.Take(); !ok || y[99999] != byte(i+1) || y[0] != 0 {
			t.Fatalf("Take of a page: %d, %v", y[99999], ok)
		}
	}
}

// P5.2: NewBox is another mailbox each time.
func TestMailboxesAreApart(t *testing.T) {
	a, b := heap.NewBox[int](1), heap.NewBox[int](1)
	put(t, a, 1, true)
	takesNone(t, b)
	put(t, b, 2, true)
	taken(t, a, 1)
	taken(t, b, 2)
}

// P5.2: nothing ever waits: neither a Put into a full one, nor a Take from an empty one, whoever else is there.
func TestNothingWaits(t *testing.T) {
	b := heap.NewBox[int](1)
	ends(t, "Take of none", func() { takesNone(t, b) })
	put(t, b, 1, true)
	ends(t, "Put into a full one", func() { put(t, b, 2, false) })
	ends(t, "many at a full one", func() {
		var wait sync.WaitGroup
		for range 8 {
			wait.Go(func() {
				for range 1000 {
					if b.Put(3) {
						t.Error("Put into a full one: true")
					}
				}
			})
		}
		wait.Wait()
	})
	taken(t, b, 1)
	ends(t, "many at an empty one", func() {
		var wait sync.WaitGroup
		for range 8 {
			wait.Go(func() {
				for range 1000 {
					if _, ok := b.Take(); ok {
						t.Error("Take of none: true")
					}
				}
			})
		}
		wait.Wait()
	})
}

// P5.2: several goroutines put and take at one time: each thing that went in is taken once, and the things of one that puts come to each that takes in their order.
func TestSeveralHands(t *testing.T) {
	const putters, takers, each = 6, 5, 3000
	for _, room := range []int{1, 2, 7, 1024} {
		b := heap.NewBox[[2]int](room)
		var wait, puts sync.WaitGroup
		var over atomic.Bool
		for i := range putters {
			puts.Go(func() {
				for k := 0; k < each; {
					if b.Put([2]int{i, k}) {
						k++
					} else {
						runtime.Gosched()
					}
				}
			})
		}
		got := make([][][2]int, takers)
		for i := range takers {
			wait.Go(func() {
				for {
					last := over.Load()
					x, ok := b.Take()
					if ok {
						got[i] = append(got[i], x)
					} else if last {
						return
					} else {
						runtime.Gosched()
					}
				}
			})
		}
		ends(t, "several hands", func() {
			puts.Wait()
			over.Store(true)
			wait.Wait()
		})
		takenOnce(t, got, putters*each)
		takesNone(t, b)
	}
}

func takenOnce(t *testing.T, got [][][2]int, want int) {
	t.Helper()
	seen := map[[2]int]int{}
	for _, things := range got {
		last := map[int]int{}
		for _, x := range things {
			seen[x]++
			if before, ok := last[x[0]]; ok && before >= x[1] {
				t.Fatalf("%v comes behind %d", x, before)
			}
			last[x[0]] = x[1]
		}
	}
	for x, times := range seen {
		if times != 1 {
			t.Fatalf("%v is taken %d times", x, times)
		}
	}
	if len(seen) != want {
		t.Fatalf("%d things are taken, not %d", len(seen), want)
	}
}

// P5.2: of many that are put at one time just as many go in as there is room for.
func TestSeveralHandsFillIt(t *testing.T) {
	for _, room := range []int{1, 100, 1024} {
		b := heap.NewBox[int](room)
		var wait sync.WaitGroup
		var in atomic.Int32
		for i := range 8 {
			wait.Go(func() {
				for k := range 500 {
					if b.Put(500*i + k) {
						in.Add(1)
					}
				}
			})
		}
		wait.Wait()
		if int(in.Load()) != room || b.Len() != room {
			t.Fatalf("%d of %d are in it, Len %d", in.Load(), room, b.Len())
		}
		seen := map[int]int{}
		for range room {
			x, ok := b.Take()
			if seen[x]++; !ok || seen[x] > 1 {
				t.Fatalf("Take: %d, %v", x, ok)
			}
		}
		takesNone(t, b)
	}
}

// Rule 8 of the language: what was taken is not kept by the mailbox.
func TestWhatIsTakenIsNotKept(t *testing.T) {
	b := heap.NewBox[*card](8)
	var gone atomic.Int32
	for range 8 {
		c := &card{}
		runtime.AddCleanup(c, func(int) { gone.Add(1) }, 0)
		b.Put(c)
	}
	for range 5 {
		b.Take()
	}
	if !collected(func() bool { return gone.Load() == 5 }) {
		t.Fatalf("of 5 things %d are gone", gone.Load())
	}
	if b.Len() != 3 {
		t.Fatalf("Len: %d", b.Len())
	}
}
