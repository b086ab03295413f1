package codec_test

import (
	"bytes"
	"math"
	"math/rand"
	"reflect"
	"testing"

	"coxswain/api"
	"coxswain/codec"
)

// expectRecord asks that a record is put as the chapter tells, and got again.
func expectRecord(t *testing.T, r record, v reflect.Value) []byte {
	t.Helper()
	b, e := r.put(v)
	if e != api.OK || !bytes.Equal(b, join(spell(v))) {
		t.Fatalf("Put%s(%+v): %v, %v; want %v", r.name, v, b, e, join(spell(v)))
	}
	x, ok := r.get(b)
	if !ok || !reflect.DeepEqual(x.Interface(), v.Interface()) {
		t.Fatalf("Get%s of what Put%s told of %+v: %+v, %v", r.name, r.name, v, x, ok)
	}
	return b
}

func expectRefused(t *testing.T, r record, v reflect.Value) {
	t.Helper()
	if b, e := r.put(v); b != nil || e != api.ErrArg {
		t.Fatalf("Put%s(%+v): %d bytes, %v; want ErrArg", r.name, v, len(b), e)
	}
	// The same bytes, had they been written, are no record either.
	expectNoRecord(t, r, join(spell(v)))
}

func expectNoRecord(t *testing.T, r record, data []byte) {
	t.Helper()
	if x, ok := r.get(data); ok || !reflect.DeepEqual(x.Interface(), r.zero().Interface()) {
		t.Fatalf("Get%s(%v): %+v, %v; want none", r.name, data, x, ok)
	}
}

func TestRecordExamples(t *testing.T) {
	for n, want := range map[int][]byte{
		0:        {0},
		-1:       {1},
		1:        {2},
		64:       {128, 1},
		1 << 40:  {128, 128, 128, 128, 128, 64},
		-1 << 40: {255, 255, 255, 255, 255, 63},
	} {
		b, e := codec.PutEntry(api.Entry{Index: n})
		if e != api.OK || !bytes.Equal(b, append(want, make([]byte, 28)...)) {
			t.Errorf("the number %d: %v, %v", n, b, e)
		}
	}
	if b, e := codec.PutCmd(api.Cmd{}); e != api.OK || !bytes.Equal(b, make([]byte, 27)) {
		t.Errorf("PutCmd of the zero command: %v, %v", b, e)
	}
	if c, ok := codec.GetCmd(make([]byte, 27)); !ok || !reflect.DeepEqual(c, api.Cmd{}) {
		t.Errorf("GetCmd of 27 bytes 0: %+v, %v", c, ok)
	}
	for _, data := range [][]byte{make([]byte, 28), make([]byte, 26), append([]byte{128, 0}, make([]byte, 26)...), nil} {
		if c, ok := codec.GetCmd(data); ok || !reflect.DeepEqual(c, api.Cmd{}) {
			t.Errorf("GetCmd(%v): %+v, %v", data, c, ok)
		}
	}
	if b, e := codec.PutEntry(api.Entry{Index: 1<<40 + 1}); b != nil || e != api.ErrArg {
		t.Errorf("PutEntry with Index 2^40 + 1: %v, %v", b, e)
	}
}

func TestRecords(t *testing.T) {
	rng := rand.New(rand.NewSource(3))
	for _, r := range records() {
		expectRecord(t, r, r.zero())
		expectRecord(t, r, r.full())
		for range 300 {
			expectRecord(t, r, r.random(rng))
		}
	}
}

func TestNumbersAtTheEdges(t *testing.T) {
	for _, r := range records() {
		v := r.full()
		for _, leaf := range leaves(v) {
			if leaf.Kind() != reflect.Int {
				continue
			}
			was := leaf.Int()
			for _, n := range []int64{-1 << 40, 1 - 1<<40, -65, -64, -1, 0, 63, 64, 1<<40 - 1, 1 << 40} {
				leaf.SetInt(n)
				expectRecord(t, r, v)
			}
			for _, n := range []int64{-1<<40 - 1, 1<<40 + 1, -1 << 41, 1 << 41, math.MinInt64, math.MinInt64 + 1, math.MaxInt64} {
				leaf.SetInt(n)
				expectRefused(t, r, v)
			}
			leaf.SetInt(was)
		}
	}
}

func TestTruthsEitherWay(t *testing.T) {
	for _, r := range records() {
		v := r.full()
		for _, leaf := range leaves(v) {
			if leaf.Kind() == reflect.Bool {
				leaf.SetBool(false)
				expectRecord(t, r, v)
				leaf.SetBool(true)
			}
		}
	}
}

// listOf is so many copies of a list's first item.
func listOf(list reflect.Value, n int) reflect.Value {
	out := reflect.MakeSlice(list.Type(), n, n)
	for i := range n {
		out.Index(i).Set(list.Index(0))
	}
	return out
}

func TestListsAndBytesAtTheEdges(t *testing.T) {
	for _, r := range records() {
		v := r.full()
		for _, leaf := range leaves(v) {
			if leaf.Kind() != reflect.Slice {
				continue
			}
			was, most := leaf.Interface(), 64
			if leaf.Type().Elem().Kind() == reflect.Uint8 {
				most = 65536
			}
			leaf.Set(listOf(leaf, most))
			expectRecord(t, r, v)
			leaf.Set(listOf(leaf, most+1))
			expectRefused(t, r, v)
			leaf.SetZero()
			expectRecord(t, r, v)
			leaf.Set(reflect.ValueOf(was))
		}
	}
}

func TestNilAndEmptyListsAreOne(t *testing.T) {
	for _, r := range records() {
		v := r.zero()
		for _, leaf := range leaves(v) {
			if leaf.Kind() == reflect.Slice {
				leaf.Set(reflect.MakeSlice(leaf.Type(), 0, 3))
			}
		}
		b, e := r.put(v)
		want, _ := r.put(r.zero())
		if e != api.OK || !bytes.Equal(b, want) {
			t.Errorf("Put%s of empty lists: %v, %v; of nil ones %v", r.name, b, e, want)
		}
		if x, ok := r.get(b); !ok || !reflect.DeepEqual(x.Interface(), r.zero().Interface()) {
			t.Errorf("Get%s: a list of none is not nil: %+v", r.name, x)
		}
	}
}

func TestCutAndLongData(t *testing.T) {
	for _, r := range records() {
		b := expectRecord(t, r, r.full())
		for i := range b {
			expectNoRecord(t, r, b[:i])
		}
		for _, behind := range [][]byte{{0}, {1}, {128}, b} {
			expectNoRecord(t, r, append(bytes.Clone(b), behind...))
		}
	}
}

// wrong is what may not stand in the place of a part, whatever is around it.
func wrong(p part) [][]byte {
	last := len(p.bytes) - 1
	open := append(bytes.Clone(p.bytes[:last]), p.bytes[last]|128)
	out := [][]byte{
		append(bytes.Clone(open), 0),
		append(bytes.Clone(open), 128, 0),
		append(bytes.Clone(open), 128, 128, 128, 128, 128, 128, 128, 128, 128, 128, 128, 1),
		append(bytes.Repeat([]byte{128}, 5), 0),
		append(bytes.Repeat([]byte{128}, 5), 65),
		append(bytes.Repeat([]byte{128}, 5), 127),
		append(bytes.Repeat([]byte{128}, 6), 1),
		append(bytes.Repeat([]byte{128}, 9), 2),
		append(bytes.Repeat([]byte{128}, 30), 2),
		bytes.Repeat([]byte{255}, 12),
		number(1<<40 + 1),
		number(-1<<40 - 1),
		number(math.MaxInt64),
		number(math.MinInt64),
	}
	if p.kind != "number" {
		out = append(out, number(-1), number(-1<<40), number(1<<40))
	}
	switch p.kind {
	case "truth":
		out = append(out, number(2), number(64), number(-2))
	case "list":
		out = append(out, number(65))
	case "size":
		out = append(out, number(65537))
	}
	return out
}

func TestWrongParts(t *testing.T) {
	for _, r := range records() {
		parts := spell(r.full())
		for i, p := range parts {
			if p.kind == "raw" {
				continue
			}
			for _, other := range wrong(p) {
				expectNoRecord(t, r, instead(parts, i, other))
			}
			for _, other := range [][]byte{{}, number(0), number(1), number(3), number(64), number(65536)} {
				expectOneForm(t, r, instead(parts, i, other))
			}
		}
	}
}

func TestCountsThatMayNotBe(t *testing.T) {
	for _, r := range records() {
		parts := spell(r.zero())
		for i, p := range parts {
			counts := []int{-1, 65, 1 << 40}
			if p.kind == "size" {
				counts = []int{-1, 65537, 1 << 40}
			} else if p.kind != "list" {
				continue
			}
			for _, n := range counts {
				// So many bytes 0 follow that they'd do for any number of items.
				data := append(join(parts[:i]), number(n)...)
				for more := range 100 {
					expectNoRecord(t, r, append(bytes.Clone(data), make([]byte, more)...))
				}
				expectNoRecord(t, r, append(data, make([]byte, 70000)...))
			}
		}
	}
}

// expectOneForm asks that data are no record, or the very bytes of the one that is told.
func expectOneForm(t *testing.T, r record, data []byte) bool {
	t.Helper()
	x, ok := r.get(data)
	if !ok {
		expectNoRecord(t, r, data)
		return false
	}
	if b, e := r.put(x); e != api.OK || !bytes.Equal(b, data) {
		t.Fatalf("Put%s of what Get%s told of %v: %v, %v", r.name, r.name, data, b, e)
	}
	return true
}

func TestPutOfGet(t *testing.T) {
	rng := rand.New(rand.NewSource(4))
	for _, r := range records() {
		taken := 0
		for range 3000 {
			data := join(spell(r.random(rng)))
			for range rng.Intn(3) {
				data[rng.Intn(len(data))] = byte(rng.Intn(256))
			}
			if expectOneForm(t, r, data) {
				taken++
			}
		}
		if taken == 0 {
			t.Errorf("Get%s took nothing", r.name)
		}
		for range 20000 {
			data := make([]byte, rng.Intn(80))
			for i := range data {
				data[i] = byte(rng.Intn(256) >> rng.Intn(9))
			}
			expectOneForm(t, r, data)
		}
	}
}

// sparesAreZero tells whether the spare room of a record's lists is untouched.
func sparesAreZero(v reflect.Value) bool {
	for _, leaf := range leaves(v) {
		if leaf.Kind() != reflect.Slice {
			continue
		}
		room := leaf.Slice(0, leaf.Cap())
		for i := leaf.Len(); i < room.Len(); i++ {
			if !room.Index(i).IsZero() {
				return false
			}
		}
	}
	return true
}

func TestRecordsStayAsTheyAre(t *testing.T) {
	for _, r := range records() {
		v, same := r.full(), r.full()
		b, _ := r.put(v)
		if !reflect.DeepEqual(v.Interface(), same.Interface()) || !sparesAreZero(v) {
			t.Errorf("Put%s changed its record", r.name)
		}
		data := roomy(b)
		x, _ := r.get(data)
		if !bytes.Equal(data, b) || !bytes.Equal(data[:cap(data)][len(data):], make([]byte, 64)) {
			t.Errorf("Get%s changed its data", r.name)
		}
		clear(data[:cap(data)])
		if !reflect.DeepEqual(x.Interface(), same.Interface()) {
			t.Errorf("what Get%s told changes with its data", r.name)
		}
		fill(v, func(part reflect.Value) {
			if part.Kind() != reflect.Slice {
				part.SetZero()
			}
		})
		if !bytes.Equal(b, join(spell(same))) {
			t.Errorf("what Put%s told changes with its record", r.name)
		}
	}
}

// TestListsShareNothing fills every list's room, one behind the other: the record must be what was filled in.
func TestListsShareNothing(t *testing.T) {
	for _, r := range records() {
		b, _ := r.put(r.full())
		x, _ := r.get(b)
		v := reflect.New(r.kind).Elem()
		v.Set(x)
		for _, leaf := range leaves(v) {
			if leaf.Kind() != reflect.Slice {
				continue
			}
			room := leaf.Slice(0, leaf.Cap())
			for i := leaf.Len(); i < room.Len(); i++ {
				room.Index(i).Set(room.Index(0))
			}
		}
		if !reflect.DeepEqual(v.Interface(), r.full().Interface()) {
			t.Errorf("lists that Get%s told share memory", r.name)
		}
	}
}

func TestCallsTellTheSameAgain(t *testing.T) {
	for _, r := range records() {
		v := r.full()
		first, _ := r.put(v)
		want := bytes.Clone(first)
		if x, ok := r.get(first); !ok || !reflect.DeepEqual(x.Interface(), v.Interface()) {
			t.Errorf("Get%s: %+v, %v", r.name, x, ok)
		}
		clear(first)
		if again, _ := r.put(v); !bytes.Equal(again, want) {
			t.Errorf("Put%s tells other bytes the second time", r.name)
		}
		if x, ok := r.get(want); !ok || !reflect.DeepEqual(x.Interface(), v.Interface()) {
			t.Errorf("Get%s tells another record the second time", r.name)
		}
	}
}
