package store_test

import (
	"math"
	"math/rand"
	"reflect"
	"testing"

	"coxswain/api"
	"coxswain/store"
)

// copied asks that a copy is the same store, by Same and by the test's own eyes.
func copied(t *testing.T, what string, s api.Store) api.Store {
	t.Helper()
	c := store.Copy(s)
	if !alike(c, s) {
		t.Fatalf("%s: Copy is %+v; not %+v", what, c, s)
	}
	same(t, what, c, s, true)
	return c
}

// same asks both ways about.
func same(t *testing.T, what string, a, b api.Store, want bool) {
	t.Helper()
	if store.Same(a, b) != want || store.Same(b, a) != want {
		t.Fatalf("%s: Same(%+v, %+v) is not %v, both ways", what, a, b, want)
	}
}

// apart asks that no two lists behind these pointers have memory in common, the room behind them neither; a list without room leads to no other one's memory.
func apart(t *testing.T, what string, pointers ...any) {
	t.Helper()
	type stretch struct{ from, to uintptr }
	var seen []stretch
	for _, p := range pointers {
		for _, list := range lists(behind(p)) {
			from := list.Pointer()
			to := from + uintptr(list.Cap())*list.Type().Elem().Size()
			for _, s := range seen {
				if from < s.to && s.from < to || from >= s.from && from < s.to {
					t.Fatalf("%s: two lists share memory", what)
				}
			}
			seen = append(seen, stretch{from, to})
		}
	}
}

// emptied are stores with parts of which one list each is nil, and the same with that list empty.
func emptied(parts int) [][2]api.Store {
	var out [][2]api.Store
	s := full(parts)
	for i := range lists(behind(&s)) {
		none, empty := full(parts), full(parts)
		list := lists(behind(&none))[i]
		list.Set(reflect.Zero(list.Type()))
		list = lists(behind(&empty))[i]
		list.Set(reflect.MakeSlice(list.Type(), 0, 0))
		out = append(out, [2]api.Store{none, empty})
	}
	return out
}

// P10.1: Copy of stores with every list, and every list within a list, full, and with one of them nil, and empty; nil and empty are one to Same.
func TestCopyIsTheSameStore(t *testing.T) {
	copied(t, "zero", api.Store{})
	copied(t, "the chapter's", example())
	for parts := range 4 {
		copied(t, "full", full(parts))
		copied(t, "with spare room", roomy(full(parts)))
		for _, pair := range emptied(parts) {
			copied(t, "a list nil", pair[0])
			copied(t, "a list empty", pair[1])
			copied(t, "a list empty, with spare room", roomy(pair[1]))
			same(t, "nil and empty", pair[0], pair[1], true)
			same(t, "nil and a copy of empty", pair[0], store.Copy(pair[1]), true)
			if parts > 0 {
				same(t, "full and nil", full(parts), pair[0], false)
				same(t, "full and empty", full(parts), pair[1], false)
			}
		}
	}
}

// P10.1: a copy's lists, at every depth, are neither the store's nor one another's, nor another copy's.
func TestCopyHasMemoryOfItsOwn(t *testing.T) {
	for parts := range 4 {
		stores := []api.Store{full(parts), roomy(full(parts))}
		for _, pair := range emptied(parts) {
			stores = append(stores, pair[1], roomy(pair[0]))
		}
		for _, s := range stores {
			c, d := store.Copy(s), store.Copy(s)
			e := store.Copy(c)
			apart(t, "Copy", &s, &c, &d, &e)
		}
	}
}

// P10.1: also where the store's own lists are one another's, the copy's are not.
func TestCopyOfListsThatShare(t *testing.T) {
	s := full(3)
	s.Stable = s.Jobs
	s.Jobs[1].Groups = s.Jobs[0].Groups
	s.Jobs[2].Groups = s.Jobs[0].Groups[1:]
	s.Seen[0].Answer.Allocs = s.Allocs
	s.Seen[1].Answer.Allocs = s.Allocs[:1]
	c := copied(t, "lists that share", s)
	apart(t, "Copy of lists that share", &c)
}

// P10.5: what is done to a copy, to each number and truth alone, to all, and to the room behind its lists, does nothing to the store, nor the other way about.
func TestCopyAndStoreGoTheirWays(t *testing.T) {
	s := roomy(full(2))
	want := plain(s, true)
	count := len(lone(behind(&s)))
	for i := range count {
		c := store.Copy(s)
		change(lone(behind(&c))[i])
		if !reflect.DeepEqual(plain(s, true), want) {
			t.Fatalf("the number %d of a copy is the store's", i)
		}
		same(t, "a copy that was changed", c, s, false)
	}
	c := store.Copy(s)
	spoil(&c)
	if !reflect.DeepEqual(plain(s, true), want) {
		t.Fatal("what is done to a copy is done to the store")
	}
	c = store.Copy(s)
	spoil(&s)
	if !alike(c, full(2)) {
		t.Fatal("what is done to the store is done to a copy")
	}
}

// P10.5: a copy's lists may grow, shrink and be put in order without the store's doing so.
func TestCopyGrows(t *testing.T) {
	for parts := range 4 {
		s := roomy(full(parts))
		want := plain(s, true)
		c := store.Copy(s)
		for i := range lists(behind(&c)) {
			list := lists(behind(&c))[i]
			list.Set(reflect.Append(list, reflect.Zero(list.Type().Elem())))
			swap := reflect.Swapper(list.Interface())
			swap(0, list.Len()-1)
		}
		if !reflect.DeepEqual(plain(s, true), want) {
			t.Fatalf("a copy of %d parts grows into the store", parts)
		}
	}
}

// P10.1: stores that differ in one field alone, at every depth, by whatever difference.
func TestSameAsksEveryField(t *testing.T) {
	s := full(2)
	for i := range lone(behind(&s)) {
		if v := lone(behind(&s))[i]; v.Kind() == reflect.Bool {
			other := full(2)
			change(lone(behind(&other))[i])
			same(t, "one truth", s, other, false)
			continue
		}
		for _, by := range []int{1, -1, 2, 1 << 8, 1 << 16, 1 << 31, 1 << 32, 1 << 40, 1 << 62, math.MinInt, math.MaxInt} {
			other := full(2)
			v := lone(behind(&other))[i]
			v.SetInt(v.Int() + int64(by))
			same(t, "one number", s, other, false)
		}
		other := full(2)
		v := lone(behind(&other))[i]
		v.SetInt(-v.Int())
		same(t, "one sign", s, other, false)
	}
	same(t, "two of the same", s, full(2), true)
	same(t, "itself", s, s, true)
}

// P10.1: lists of which one is the other one's beginning or end, or that hold the same parts in another order, are not the same.
func TestSameAsksEveryList(t *testing.T) {
	s := full(3)
	for i := range lists(behind(&s)) {
		shorter, later, turned := full(3), full(3), full(3)
		list := lists(behind(&shorter))[i]
		list.Set(list.Slice(0, 2))
		list = lists(behind(&later))[i]
		list.Set(list.Slice(1, 3))
		list = lists(behind(&turned))[i]
		reflect.Swapper(list.Interface())(0, 2)
		longer := full(3)
		list = lists(behind(&longer))[i]
		list.Set(reflect.Append(list, reflect.Zero(list.Type().Elem())))
		for _, other := range []api.Store{shorter, later, turned, longer} {
			same(t, "one list", s, other, false)
		}
		twice := full(3)
		list = lists(behind(&twice))[i]
		list.Set(reflect.Append(list, list.Index(2)))
		same(t, "the last one twice", s, twice, false)
	}
}

// P10.1: what stands in one list is not the same in another one.
func TestSameAsksWhichList(t *testing.T) {
	job := api.Job{ID: 1, Groups: []api.Group{{Count: 1}}}
	same(t, "Jobs and Stable", api.Store{Jobs: []api.Job{job}}, api.Store{Stable: []api.Job{job}}, false)
	same(t, "Evals and Deploys", api.Store{Evals: []api.Eval{{Job: 1, State: 1}}}, api.Store{Deploys: []api.Deploy{{Job: 1, State: 1}}}, false)
	same(t, "Index and Next", api.Store{Index: 1}, api.Store{Next: 1}, false)
	two := func(first, second []api.Group) api.Store {
		return api.Store{Jobs: []api.Job{{Groups: first}, {Groups: second}}}
	}
	one := []api.Group{{Count: 1}}
	same(t, "Groups of two jobs", two(one, nil), two(nil, one), false)
	same(t, "Groups of two jobs, empty", two(one, nil), two(one, []api.Group{}), true)
	seen := func(first, second []api.Alloc) api.Store {
		return api.Store{Seen: []api.Seen{{Answer: api.Result{Allocs: first}}, {Answer: api.Result{Allocs: second}}}}
	}
	same(t, "Allocs of two answers", seen([]api.Alloc{{ID: 1}}, nil), seen(nil, []api.Alloc{{ID: 1}}), false)
}

// P10.1: spare room is no part of a store.
func TestSameAsksNoSpareRoom(t *testing.T) {
	for parts := range 3 {
		a, b := full(parts), roomy(full(parts))
		same(t, "spare room", a, b, true)
		c := roomy(full(parts))
		for _, list := range lists(behind(&c)) {
			spoilValue(list.Slice(list.Len(), list.Cap()))
		}
		same(t, "other spare room", b, c, true)
	}
}

// P10.1: any stores at all, held against the test's own eyes; small ones, so that many are the same.
func TestSameOfAnyStores(t *testing.T) {
	dice := rand.New(rand.NewSource(10))
	for range 20000 {
		a := anyStore(dice, 3)
		b := copied(t, "any", a)
		if all := lone(behind(&b)); dice.Intn(2) == 0 {
			v := all[dice.Intn(len(all))]
			was := v.Interface()
			anyValue(dice, v, 0)
			same(t, "one was drawn anew", a, b, was == v.Interface())
		}
		c := anyStore(dice, 1)
		same(t, "two", a, c, alike(a, c))
	}
}
