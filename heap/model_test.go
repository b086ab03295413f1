package heap_test

import (
	"math/rand"
	"testing"

	"coxswain/heap"
)

// model is P5.1 word by word: a list in the order in which things came, the least of which is looked for each time.
type model []tens

func (m model) least() int {
	for i, x := range m {
		least := true
		for _, y := range m {
			least = least && !y.Less(x)
		}
		if least {
			return i
		}
	}
	return -1
}

func (m *model) pop() (tens, bool) {
	i := m.least()
	if i < 0 {
		return 0, false
	}
	x := (*m)[i]
	*m = append(append(model{}, (*m)[:i]...), (*m)[i+1:]...)
	return x, true
}

func (m *model) remove(x tens) int {
	var left model
	for _, y := range *m {
		if y.Less(x) || x.Less(y) {
			left = append(left, y)
		}
	}
	gone := len(*m) - len(left)
	*m = left
	return gone
}

// P5.1: scripts of calls by chance, held against the model.
func TestScriptsAgainstTheModel(t *testing.T) {
	for seed := range int64(400) {
		dice := rand.New(rand.NewSource(seed))
		h, m := heap.New[tens](), model(nil)
		wide := 1 + dice.Intn(200)
		grow := 3 + dice.Intn(8)
		for step := range 300 {
			x := tens(dice.Intn(wide) - wide/3)
			switch n := dice.Intn(16); {
			case n < grow:
				h.Push(x)
				m = append(m, x)
			case n == 15:
				if got, want := h.Remove(x), m.remove(x); got != want {
					t.Fatalf("seed %d, step %d: Remove(%d): %d, not %d", seed, step, x, got, want)
				}
			default:
				got, ok := h.Pop()
				if want, there := m.pop(); got != want || ok != there {
					t.Fatalf("seed %d, step %d: Pop: %d, %v; not %d, %v", seed, step, got, ok, want, there)
				}
			}
			seen, ok := h.Peek()
			want, there := tens(0), len(m) > 0
			if there {
				want = m[m.least()]
			}
			if seen != want || ok != there || h.Len() != len(m) {
				t.Fatalf("seed %d, step %d: Peek: %d, %v of %d; not %d, %v of %d", seed, step, seen, ok, h.Len(), want, there, len(m))
			}
		}
		var rest []tens
		for len(m) > 0 {
			x, _ := m.pop()
			rest = append(rest, x)
		}
		told(t, "the rest", popAll(t, h), rest...)
	}
}

// P5.2: scripts of calls by chance, held against a list.
func TestScriptsOfTheMailbox(t *testing.T) {
	for seed := range int64(200) {
		dice := rand.New(rand.NewSource(seed))
		room := 1 + dice.Intn(20)
		b, list := heap.NewBox[int](room), []int(nil)
		for step := range 500 {
			if dice.Intn(2) == 0 {
				put(t, b, step, len(list) < room)
				if len(list) < room {
					list = append(list, step)
				}
			} else if len(list) > 0 {
				taken(t, b, list[0])
				list = list[1:]
			} else {
				takesNone(t, b)
			}
		}
	}
}
