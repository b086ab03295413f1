package store_test

import (
	"math/rand"
	"reflect"
	"testing"

	"coxswain/api"
	"coxswain/store"
)

// told is what the calls answer of a store and a number.
type told struct {
	places [6]int
	used   api.Res
	slots  [2]int
	holder [4]int
}

func ask(s api.Store, n int) told {
	var out told
	for i, k := range kinds() {
		out.places[i] = k.ask(s, n)
	}
	out.used = store.Used(s, n)
	out.slots[0], out.slots[1] = store.Slots(s, n)
	out.holder = [4]int{store.Slot(s, n, 0, 0), store.Slot(s, n, 0, 1), store.Slot(s, n, 1, 0), store.Slot(s, n, n, n)}
	return out
}

// R4: no call changes what it is handed, nor its spare room, and none looks into that; asked again it answers the same.
func TestWhatIsHandedInStays(t *testing.T) {
	dice := rand.New(rand.NewSource(10))
	stores := []api.Store{{}, example(), full(1), full(3), filled(2, 3)}
	for range 500 {
		stores = append(stores, anyStore(dice, 6))
	}
	for i, s := range stores {
		handed := roomy(s)
		other := roomy(stores[(i+1)%len(stores)])
		want, wantOther := plain(handed, true), plain(other, true)
		for n := -1; n < 9; n++ {
			if ask(handed, n) != ask(s, n) || ask(handed, n) != ask(handed, n) {
				t.Fatalf("of %d, %+v is not told the same with spare room, and again", n, s)
			}
		}
		store.Copy(handed)
		store.Same(handed, other)
		store.Same(other, handed)
		if !reflect.DeepEqual(plain(handed, true), want) || !reflect.DeepEqual(plain(other, true), wantOther) {
			t.Fatalf("%+v was changed", s)
		}
	}
}

// R4: nil and empty lists are one to every call.
func TestNilAndEmptyAreOne(t *testing.T) {
	empty := api.Store{Jobs: []api.Job{}, Stable: []api.Job{}, Nodes: []api.Node{}, Allocs: []api.Alloc{}, Evals: []api.Eval{}, Deploys: []api.Deploy{}, Seen: []api.Seen{}}
	same(t, "a store of nothing", empty, api.Store{}, true)
	pairs := append(emptied(2), [2]api.Store{{}, empty})
	one := func(groups []api.Group) api.Store {
		s := filled(2)
		s.Jobs[0].Groups = groups
		return s
	}
	pairs = append(pairs, [2]api.Store{one(nil), one([]api.Group{})})
	for _, pair := range pairs {
		for n := -1; n < 100; n++ {
			if ask(pair[0], n) != ask(pair[1], n) {
				t.Fatalf("of %d, nil and empty are two: %+v", n, pair[0])
			}
		}
		if ask(pair[0], 1) != ask(store.Copy(pair[1]), 1) {
			t.Fatalf("a copy is told otherwise: %+v", pair[0])
		}
	}
}

// R1: the least and the greatest numbers, in every field and in every argument, end and do not panic.
func TestAnyNumbersAtAll(t *testing.T) {
	for _, n := range farNumbers() {
		s := full(3)
		for _, v := range lone(behind(&s)) {
			if v.Kind() == reflect.Int {
				v.SetInt(int64(n))
			}
		}
		for _, m := range farNumbers() {
			ask(s, m)
			ask(api.Store{}, m)
			store.Slot(s, m, n, m)
			store.Slot(s, n, m, n)
			want := -1
			if n == m {
				want = 0
			}
			for _, k := range kinds() {
				k.at(t, s, m, want)
			}
		}
		same(t, "far numbers", store.Copy(s), s, true)
	}
}
