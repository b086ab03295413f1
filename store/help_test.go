package store_test

import (
	"math"
	"math/rand"
	"reflect"
	"testing"

	"coxswain/api"
	"coxswain/store"
)

// The numbers of the document, said once more, so that the tests do not lean on the names.
const (
	allocNew     = 1
	allocRunning = 2
	allocDone    = 3
	allocFailed  = 4
	allocEnded   = 5
	allocLost    = 6

	service = 1
	batch   = 2
	system  = 3

	top = 1 << 60
)

// example is the chapter's store.
func example() api.Store {
	return api.Store{
		Jobs: []api.Job{{ID: 1, Type: service, Version: 2, Groups: []api.Group{{Count: 2}}}},
		Allocs: []api.Alloc{
			{ID: 5, Job: 1, Group: 0, Index: 0, Version: 2, State: allocRunning, Node: 3, Ask: res(10, 1)},
			{ID: 6, Job: 1, Group: 0, Index: 1, Version: 2, State: allocLost, Node: 3, Ask: res(10, 1)},
		},
	}
}

func res(cpu, mem int) api.Res { return api.Res{CPU: cpu, Mem: mem} }

// full is a store in which every list, and every list within one, has so many parts, and no two numbers are the same; new memory each time it is asked for.
func full(parts int) api.Store {
	var s api.Store
	next := 0
	fillValue(reflect.ValueOf(&s).Elem(), parts, &next)
	return s
}

func fillValue(v reflect.Value, parts int, next *int) {
	switch v.Kind() {
	case reflect.Struct:
		for i := range v.NumField() {
			fillValue(v.Field(i), parts, next)
		}
	case reflect.Slice:
		v.Set(reflect.MakeSlice(v.Type(), parts, parts))
		for i := range parts {
			fillValue(v.Index(i), parts, next)
		}
	case reflect.Int:
		*next++
		v.SetInt(int64(*next))
	case reflect.Bool:
		*next++
		v.SetBool(*next%2 == 0)
	default:
		panic(v.Kind())
	}
}

// lone are all numbers and truths behind a value, at every depth.
func lone(v reflect.Value) []reflect.Value {
	var out []reflect.Value
	switch v.Kind() {
	case reflect.Struct:
		for i := range v.NumField() {
			out = append(out, lone(v.Field(i))...)
		}
	case reflect.Slice:
		for i := range v.Len() {
			out = append(out, lone(v.Index(i))...)
		}
	default:
		out = append(out, v)
	}
	return out
}

// lists are all lists behind a value, at every depth.
func lists(v reflect.Value) []reflect.Value {
	var out []reflect.Value
	switch v.Kind() {
	case reflect.Struct:
		for i := range v.NumField() {
			out = append(out, lists(v.Field(i))...)
		}
	case reflect.Slice:
		out = append(out, v)
		for i := range v.Len() {
			out = append(out, lists(v.Index(i))...)
		}
	}
	return out
}

// behind is what a pointer leads to.
func behind(p any) reflect.Value { return reflect.ValueOf(p).Elem() }

// plain is a copy in which no list is empty but nil; with room, the lists' spare room is a part of them.
func plain(s api.Store, room bool) api.Store {
	var out api.Store
	plainInto(behind(&out), behind(&s), room)
	return out
}

func plainInto(out, from reflect.Value, room bool) {
	switch from.Kind() {
	case reflect.Struct:
		for i := range from.NumField() {
			plainInto(out.Field(i), from.Field(i), room)
		}
	case reflect.Slice:
		if room {
			from = from.Slice(0, from.Cap())
		}
		if from.Len() > 0 {
			out.Set(reflect.MakeSlice(from.Type(), from.Len(), from.Len()))
		}
		for i := range from.Len() {
			plainInto(out.Index(i), from.Index(i), room)
		}
	default:
		out.Set(from)
	}
}

// alike is the test's own Same: it takes lists of none and no lists as one, at every depth.
func alike(a, b api.Store) bool {
	return reflect.DeepEqual(plain(a, false), plain(b, false))
}

// roomy is the same store in new memory, with spare room behind each of its lists that is filled.
func roomy(s api.Store) api.Store {
	var out api.Store
	roomyInto(behind(&out), behind(&s))
	return out
}

func roomyInto(out, from reflect.Value) {
	switch from.Kind() {
	case reflect.Struct:
		for i := range from.NumField() {
			roomyInto(out.Field(i), from.Field(i))
		}
	case reflect.Slice:
		next := 5000
		whole := reflect.MakeSlice(from.Type(), from.Len()+2, from.Len()+2)
		for i := range from.Len() {
			roomyInto(whole.Index(i), from.Index(i))
		}
		for i := from.Len(); i < whole.Len(); i++ {
			fillValue(whole.Index(i), 1, &next)
		}
		out.Set(whole.Slice(0, from.Len()))
	default:
		out.Set(from)
	}
}

// spoil writes over all that is behind a pointer, at every depth, and over the spare room of its lists.
func spoil(p any) { spoilValue(behind(p)) }

func spoilValue(v reflect.Value) {
	switch v.Kind() {
	case reflect.Struct:
		for i := range v.NumField() {
			spoilValue(v.Field(i))
		}
	case reflect.Slice:
		whole := v.Slice(0, v.Cap())
		for i := range whole.Len() {
			spoilValue(whole.Index(i))
		}
	default:
		change(v)
	}
}

// change makes a number or a truth another one.
func change(v reflect.Value) {
	if v.Kind() == reflect.Bool {
		v.SetBool(!v.Bool())
		return
	}
	v.SetInt(v.Int() + 77)
}

// farNumbers are the least and the greatest of the type, those beside what may be, and those that are small when they are cut to fewer bits.
func farNumbers() []int {
	out := []int{math.MinInt, math.MinInt + 1, -1 << 40, -2, -1, 0, 1, 2, 1<<40 - 1, 1 << 40, 1<<40 + 1, top - 1, top, top + 1, 1 << 62, math.MaxInt - 1, math.MaxInt}
	for _, bits := range []int{8, 16, 32} {
		out = append(out, 1<<bits, 1<<bits+1, 1-1<<bits)
	}
	return out
}

// anyNumber is mostly a small one, so that they meet; now and then one that is far.
func anyNumber(dice *rand.Rand) int {
	if dice.Intn(16) == 0 {
		far := farNumbers()
		return far[dice.Intn(len(far))]
	}
	return dice.Intn(5)
}

// anyStore is one of which all numbers are any, with at most so many parts in each list.
func anyStore(dice *rand.Rand, most int) api.Store {
	var s api.Store
	anyValue(dice, behind(&s), most)
	return s
}

func anyValue(dice *rand.Rand, v reflect.Value, most int) {
	switch v.Kind() {
	case reflect.Struct:
		for i := range v.NumField() {
			anyValue(dice, v.Field(i), most)
		}
	case reflect.Slice:
		if dice.Intn(8) == 0 {
			return
		}
		parts := dice.Intn(most + 1)
		v.Set(reflect.MakeSlice(v.Type(), parts, parts))
		for i := range parts {
			anyValue(dice, v.Index(i), most)
		}
	case reflect.Int:
		v.SetInt(int64(anyNumber(dice)))
	case reflect.Bool:
		v.SetBool(dice.Intn(2) == 0)
	default:
		panic(v.Kind())
	}
}

func used(t *testing.T, s api.Store, node int, want api.Res) {
	t.Helper()
	if got := store.Used(s, node); got != want {
		t.Errorf("Used(%d): %v; not %v, of %+v", node, got, want, s.Allocs)
	}
}

func slot(t *testing.T, s api.Store, job, group, index, want int) {
	t.Helper()
	if got := store.Slot(s, job, group, index); got != want {
		t.Errorf("Slot(%d, %d, %d): %d; not %d, of %+v", job, group, index, got, want, s.Allocs)
	}
}

func slots(t *testing.T, s api.Store, job, all, run int) {
	t.Helper()
	if a, r := store.Slots(s, job); a != all || r != run {
		t.Errorf("Slots(%d): %d, %d; not %d, %d, of %+v and %+v", job, a, r, all, run, s.Jobs, s.Allocs)
	}
}
