package codec_test

import (
	"encoding/binary"
	"math/rand"
	"reflect"

	"coxswain/api"
	"coxswain/codec"
)

// record is one of the five kinds of records, with its calls; its values are handed about as reflect.Values.
type record struct {
	name string
	kind reflect.Type
	put  func(reflect.Value) ([]byte, api.Errno)
	get  func([]byte) (reflect.Value, bool)
}

func recordOf[T any](name string, put func(T) ([]byte, api.Errno), get func([]byte) (T, bool)) record {
	return record{
		name: name,
		kind: reflect.TypeFor[T](),
		put:  func(v reflect.Value) ([]byte, api.Errno) { return put(v.Interface().(T)) },
		get: func(data []byte) (reflect.Value, bool) {
			x, ok := get(data)
			return reflect.ValueOf(x), ok
		},
	}
}

func records() []record {
	return []record{
		recordOf("Cmd", codec.PutCmd, codec.GetCmd),
		recordOf("Entry", codec.PutEntry, codec.GetEntry),
		recordOf("Msg", codec.PutMsg, codec.GetMsg),
		recordOf("Snapshot", codec.PutSnapshot, codec.GetSnapshot),
		recordOf("Store", codec.PutStore, codec.GetStore),
	}
}

func (r record) zero() reflect.Value { return reflect.New(r.kind).Elem() }

// full is a record with two of each list (and room for more), all truths true, and no two numbers the same.
func (r record) full() reflect.Value {
	v := r.zero()
	next := 0
	fill(v, func(part reflect.Value) {
		switch part.Kind() {
		case reflect.Int:
			next++
			part.SetInt(int64(next))
		case reflect.Uint8:
			next++
			part.SetUint(uint64(next % 256))
		case reflect.Bool:
			part.SetBool(true)
		case reflect.Slice:
			part.Set(reflect.MakeSlice(part.Type(), 2, 4))
		}
	})
	return v
}

// random is a record of what may be, the edges among it.
func (r record) random(rng *rand.Rand) reflect.Value {
	v := r.zero()
	fill(v, func(part reflect.Value) {
		switch part.Kind() {
		case reflect.Int:
			part.SetInt(randomNumber(rng))
		case reflect.Uint8:
			part.SetUint(uint64(rng.Intn(256)))
		case reflect.Bool:
			part.SetBool(rng.Intn(2) == 1)
		case reflect.Slice:
			if n := rng.Intn(4); n > 0 {
				part.Set(reflect.MakeSlice(part.Type(), n, n))
			}
		}
	})
	return v
}

func randomNumber(rng *rand.Rand) int64 {
	edges := []int64{0, 1, -1, 63, 64, -64, -65, 8191, 8192, -8192, -8193, 1 << 34, 1<<40 - 1, 1 << 40, -1 << 40, 1 - 1<<40}
	if rng.Intn(2) == 0 {
		return edges[rng.Intn(len(edges))]
	}
	n := rng.Int63n(1 << rng.Intn(41))
	if rng.Intn(2) == 0 {
		return -n
	}
	return n
}

// fill sets every part of a record, a list ahead of what is in it.
func fill(v reflect.Value, set func(reflect.Value)) {
	switch v.Kind() {
	case reflect.Struct:
		for i := range v.NumField() {
			fill(v.Field(i), set)
		}
	case reflect.Slice:
		set(v)
		for i := range v.Len() {
			fill(v.Index(i), set)
		}
	default:
		set(v)
	}
}

// leaves are the numbers, truths and lists of a record (a list's items behind it), to be set.
func leaves(v reflect.Value) []reflect.Value {
	var out []reflect.Value
	fill(v, func(part reflect.Value) {
		if part.Kind() != reflect.Uint8 {
			out = append(out, part)
		}
	})
	return out
}

// part is bytes of a record that stand for one thing.
type part struct {
	kind  string // number, truth, list (how many), size (of bytes), raw (the bytes themselves)
	bytes []byte
}

func number(n int) []byte { return binary.AppendVarint(nil, int64(n)) }

// spell tells a record's parts by the chapter's words alone, in the order of package api's fields; it knows no limits.
func spell(v reflect.Value) []part {
	switch v.Kind() {
	case reflect.Int:
		return []part{{"number", number(int(v.Int()))}}
	case reflect.Bool:
		n := 0
		if v.Bool() {
			n = 1
		}
		return []part{{"truth", number(n)}}
	case reflect.Struct:
		var out []part
		for i := range v.NumField() {
			out = append(out, spell(v.Field(i))...)
		}
		return out
	}
	if v.Type().Elem().Kind() == reflect.Uint8 {
		return []part{{"size", number(v.Len())}, {"raw", v.Bytes()}}
	}
	out := []part{{"list", number(v.Len())}}
	for i := range v.Len() {
		out = append(out, spell(v.Index(i))...)
	}
	return out
}

func join(parts []part) []byte {
	out := []byte{}
	for _, p := range parts {
		out = append(out, p.bytes...)
	}
	return out
}

// instead is the parts' bytes, with others in the place of the n-th one's.
func instead(parts []part, n int, other []byte) []byte {
	out := append(join(parts[:n]), other...)
	return append(out, join(parts[n+1:])...)
}
