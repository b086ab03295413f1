package wal_test

import (
	"bytes"
	"fmt"
	"reflect"
	"slices"
	"testing"

	"coxswain/api"
	"coxswain/codec"
	"coxswain/disk"
	"coxswain/wal"
)

func is(t *testing.T, what string, got, want api.Errno) {
	t.Helper()
	if got != want {
		t.Fatalf("%s: %d, not %d", what, got, want)
	}
}

// entry is one with something in each of its lists, new memory each time it is asked for; the term tells it from others of its index.
func entry(index, term int) api.Entry {
	ask := api.Res{CPU: 10 * (index % 100), Mem: term}
	return api.Entry{Index: index, Term: term, Cmd: api.Cmd{
		Op: api.CmdPlan, Client: index % 5, Req: index % 100 * term,
		Job:     api.Job{ID: index, Groups: []api.Group{{Count: term, Ask: ask}, {Count: 2}}},
		Node:    api.Node{ID: 1, Cap: ask, Up: true, Epoch: -1},
		Reports: []api.Report{{Alloc: index, State: term}},
		Plan:    api.Plan{Job: term, Stops: []int{index, -term}, Places: []api.Alloc{{ID: index, Ask: ask, Stop: true}}},
		Conf:    api.Conf{Voters: []int{1, 2, index}, Learners: []int{term}},
	}}
}

// entries are those of the indexes first to last.
func entries(first, last, term int) []api.Entry {
	var l []api.Entry
	for i := first; i <= last; i++ {
		l = append(l, entry(i, term))
	}
	return l
}

func snapshot(index, term int) api.Snapshot {
	return api.Snapshot{Index: index, Term: term, Conf: api.Conf{Voters: []int{1, term}, Learners: []int{index}}, Data: fmt.Appendf(nil, "store of %d, %d", index, term)}
}

// number writes one as chapter 1 says, and pair two, as a Hard's body is.
func number(n int) []byte {
	u := 2 * n
	if n < 0 {
		u = -2*n - 1
	}
	var out []byte
	for ; u >= 128; u /= 128 {
		out = append(out, byte(u%128)+128)
	}
	return append(out, byte(u))
}

func pair(a, b int) []byte {
	return append(number(a), number(b)...)
}

func frame(kind, place int, body []byte) []byte {
	out, e := codec.Frame(kind, place, body)
	if e != api.OK {
		panic(e)
	}
	return out
}

func hardFrame(h api.Hard) []byte {
	return frame(1, 0, pair(h.Term, h.Vote))
}

func entryBody(x api.Entry) []byte {
	body, e := codec.PutEntry(x)
	if e != api.OK {
		panic(e)
	}
	return body
}

func entryFrame(x api.Entry) []byte {
	return frame(2, x.Index, entryBody(x))
}

func entryFrames(l []api.Entry) []byte {
	var out []byte
	for _, x := range l {
		out = append(out, entryFrame(x)...)
	}
	return out
}

func snapshotBody(s api.Snapshot) []byte {
	body, e := codec.PutSnapshot(s)
	if e != api.OK {
		panic(e)
	}
	return body
}

func snapshotFrame(s api.Snapshot) []byte {
	return frame(3, s.Index, snapshotBody(s))
}

// file is what a disk has by that name; nil, if it has none.
func file(d *disk.Disk, name string) []byte {
	data, e := d.Read(name)
	if e != api.OK {
		return nil
	}
	return append([]byte{}, data...)
}

func hasFile(t *testing.T, d *disk.Disk, want []byte, what string) {
	t.Helper()
	if got := file(d, "log"); !bytes.Equal(got, want) {
		t.Fatalf("%s: the file has %d bytes %x, not %d %x", what, len(got), first(got), len(want), first(want))
	}
	if got := d.List(); !slices.Equal(got, []string{"log"}) {
		t.Fatalf("%s: the files %q", what, got)
	}
}

func first(b []byte) []byte {
	return b[:min(len(b), 200)]
}

// diskWith is one on which just this file lies, durable.
func diskWith(t *testing.T, parts ...[]byte) *disk.Disk {
	t.Helper()
	d := disk.New()
	is(t, "Put", d.Put("log", bytes.Join(parts, nil)), api.OK)
	is(t, "Sync", d.Sync(), api.OK)
	return d
}

// open opens a disk that may not be refused.
func open(t *testing.T, d *disk.Disk) *wal.Wal {
	t.Helper()
	w, s, e := wal.Open(d)
	is(t, "Open", e, api.OK)
	told(t, w.Saved(), s, "Saved behind Open")
	return w
}

// opens holds what Open tells against what it should.
func opens(t *testing.T, d *disk.Disk, want api.Saved, what string) *wal.Wal {
	t.Helper()
	w, s, e := wal.Open(d)
	is(t, "Open of "+what, e, api.OK)
	if w == nil {
		t.Fatalf("Open of %s: no wal", what)
	}
	told(t, s, want, "Open of "+what)
	told(t, w.Saved(), want, "Saved behind Open of "+what)
	return w
}

func refuses(t *testing.T, d *disk.Disk, want api.Errno, what string) {
	t.Helper()
	w, s, e := wal.Open(d)
	is(t, "Open of "+what, e, want)
	if w != nil || !reflect.DeepEqual(s, api.Saved{}) {
		t.Fatalf("Open of %s: %v, %v beside an error", what, w, s)
	}
}

// alike takes lists of none and no lists as one.
func alike(a, b api.Saved) bool {
	return a.Hard == b.Hard && bytes.Equal(snapshotBody(a.Snapshot), snapshotBody(b.Snapshot)) && bytes.Equal(entryFrames(a.Entries), entryFrames(b.Entries))
}

func told(t *testing.T, got, want api.Saved, what string) {
	t.Helper()
	if !alike(got, want) {
		t.Fatalf("%s: %s, not %s", what, short(got), short(want))
	}
}

// short is of entries their indexes and terms alone.
func short(s api.Saved) string {
	out := fmt.Sprintf("%v snapshot %d, %d, %v, %d bytes; entries", s.Hard, s.Snapshot.Index, s.Snapshot.Term, s.Snapshot.Conf, len(s.Snapshot.Data))
	for _, x := range s.Entries {
		out += fmt.Sprintf(" %d(%d)", x.Index, x.Term)
	}
	return out
}

// spoil writes over all that is behind a pointer, and over the spare room of its lists.
func spoil(p any) {
	spoilValue(reflect.ValueOf(p).Elem())
}

func spoilValue(v reflect.Value) {
	switch v.Kind() {
	case reflect.Struct:
		for i := range v.NumField() {
			spoilValue(v.Field(i))
		}
	case reflect.Slice:
		room := v.Slice(0, v.Cap())
		for i := range room.Len() {
			spoilValue(room.Index(i))
		}
	case reflect.Int:
		v.SetInt(v.Int() + 77)
	case reflect.Uint8:
		v.SetUint(v.Uint() ^ 255)
	case reflect.Bool:
		v.SetBool(!v.Bool())
	default:
		panic(v.Kind())
	}
}
