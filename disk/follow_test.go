package disk_test

import (
	"fmt"
	"maps"
	"math/rand"
	"strings"
	"testing"

	"coxswain/api"
	"coxswain/disk"
)

// TestSyncedStays: what was synced is there behind any crash, and any number of them.
func TestSyncedStays(t *testing.T) {
	for seed := range 200 {
		r := rand.New(rand.NewSource(int64(seed)))
		d := disk.New()
		want := map[string]string{}
		for round := range 6 {
			name := fmt.Sprintf("f%d", r.Intn(4))
			want[name] += fmt.Sprint(round)
			is(t, "Append", d.Append(name, fmt.Append(nil, round)), api.OK)
			is(t, "Sync", d.Sync(), api.OK)
			if r.Intn(2) == 0 {
				// Only other files are written, so that those that were synced can be told whatever the crash keeps.
				is(t, "Append", d.Append("other", []byte("lost or not")), api.OK)
				is(t, "Rename", d.Rename("other", "another"), api.OK)
			}
			d.Crash(r.Int() - r.Int())
			for name, data := range want {
				reads(t, d, name, data)
			}
		}
	}
}

// TestSyncHoldsAll: P2.1: Sync makes each kind of what was done durable, wherever among other things it stands.
func TestSyncHoldsAll(t *testing.T) {
	kept := scriptKept()
	d := script(t)
	is(t, "Sync", d.Sync(), api.OK)
	holds(t, d, kept[len(kept)-1], "Sync")
	is(t, "Remove", d.Remove("b"), api.OK)
	is(t, "Remove", d.Remove("c"), api.OK)
	is(t, "Put", d.Put("a", []byte("new")), api.OK)
	d.Crash(0)
	holds(t, d, kept[len(kept)-1], "Sync, more, Crash(0)")
}

// TestKeepsAllAhead: a crash that keeps something of what was done keeps all that was done ahead of it: of numbered things just the first ones are there.
func TestKeepsAllAhead(t *testing.T) {
	for pick := range 60 {
		d := disk.New()
		for i := range 10 {
			is(t, "Append", d.Append("log", []byte{byte(i), byte(i)}), api.OK)
			is(t, "Put", d.Put(fmt.Sprintf("f%d", i), nil), api.OK)
		}
		d.Crash(pick)
		units := pick % 31
		for i := range 10 {
			if _, e := d.Read(fmt.Sprintf("f%d", i)); (e == api.OK) != (units >= 3*(i+1)) {
				t.Fatalf("Crash(%d): f%d: %d", pick, i, e)
			}
		}
		var log string
		for u := range units {
			if u%3 < 2 {
				log += string([]byte{byte(u / 3)})
			}
		}
		if got, _ := d.Read("log"); string(got) != log {
			t.Fatalf("Crash(%d): log: %q, not %q", pick, got, log)
		}
	}
}

// spoil writes over bytes and over the room behind them.
func spoil(b []byte) {
	b = b[:cap(b)]
	for i := range b {
		b[i] = '#'
	}
}

// TestBytesHandedIn: they are nobody else's: not changed, not kept, their spare room neither.
func TestBytesHandedIn(t *testing.T) {
	for _, put := range []bool{false, true} {
		d := disk.New()
		room := []byte("abc....................")
		given := room[:3]
		if put {
			is(t, "Put", d.Put("a", given), api.OK)
		} else {
			is(t, "Append", d.Append("a", given), api.OK)
		}
		is(t, "Append", d.Append("a", []byte("de")), api.OK)
		if string(room) != "abc...................." {
			t.Fatalf("what was handed in is %q now", room)
		}
		spoil(room)
		reads(t, d, "a", "abcde")
		d.Crash(-2)
		reads(t, d, "a", "abcd")
		is(t, "Append", d.Append("a", []byte("xyz")), api.OK)
		if string(room) != strings.Repeat("#", len(room)) {
			t.Fatalf("what was handed in is %q now", room)
		}
		reads(t, d, "a", "abcdxyz")
		d.Crash(0)
		reads(t, d, "a", "abcd")
	}
}

// TestBytesTold: what Read and List tell is nobody else's, however it is written over, and whatever is done later.
func TestBytesTold(t *testing.T) {
	d := disk.New()
	look := func(want map[string]string) {
		t.Helper()
		for range 2 {
			holds(t, d, want, "behind bytes that were told and written over")
			for name := range want {
				b, _ := d.Read(name)
				spoil(b)
			}
			names := d.List()
			for i := range names {
				names[i] = "#"
			}
		}
	}
	is(t, "Put", d.Put("a", []byte("put")), api.OK)
	is(t, "Append", d.Append("b", []byte("appended")), api.OK)
	look(map[string]string{"a": "put", "b": "appended"})
	is(t, "Append", d.Append("a", []byte("+")), api.OK)
	look(map[string]string{"a": "put+", "b": "appended"})
	is(t, "Sync", d.Sync(), api.OK)
	look(map[string]string{"a": "put+", "b": "appended"})
	is(t, "Append", d.Append("b", []byte("more")), api.OK)
	told, _ := d.Read("b")
	look(map[string]string{"a": "put+", "b": "appendedmore"})
	d.Crash(2)
	look(map[string]string{"a": "put+", "b": "appendedmo"})
	is(t, "Append", d.Append("b", []byte("xyz")), api.OK)
	look(map[string]string{"a": "put+", "b": "appendedmoxyz"})
	d.Crash(0)
	look(map[string]string{"a": "put+", "b": "appendedmo"})
	if string(told) != "appendedmore" {
		t.Errorf("what was told is %q now", told)
	}
}

// TestFilesGrowApart: bytes that a file and its durable form, or two files one behind the other, have in common stay as they are when one of them grows.
func TestFilesGrowApart(t *testing.T) {
	for size := range 40 {
		start := strings.Repeat("s", size)
		d := disk.New()
		is(t, "Put", d.Put("a", []byte(start)), api.OK)
		is(t, "Sync", d.Sync(), api.OK)
		is(t, "Append", d.Append("a", []byte("1")), api.OK)
		is(t, "Append", d.Append("a", []byte("2")), api.OK)
		is(t, "Rename", d.Rename("a", "b"), api.OK)
		is(t, "Append", d.Append("a", []byte("3")), api.OK)
		reads(t, d, "b", start+"12")
		d.Crash(1)
		reads(t, d, "a", start+"1")
		is(t, "Append", d.Append("a", []byte("xyz")), api.OK)
		d.Crash(0)
		reads(t, d, "a", start+"1")
		is(t, "Append", d.Append("a", []byte("q")), api.OK)
		reads(t, d, "a", start+"1q")
		d.Crash(0)
		reads(t, d, "a", start+"1")
	}
}

// TestSameAgain: R5: what a disk answers hangs on what it was told alone.
func TestSameAgain(t *testing.T) {
	for pick := range 16 {
		want := scriptKept()[pick]
		for range 20 {
			d := script(t)
			d.Crash(pick)
			got := map[string]string{}
			for _, name := range d.List() {
				b, _ := d.Read(name)
				got[name] = string(b)
			}
			if !maps.Equal(got, want) {
				t.Fatalf("Crash(%d): %q, not %q", pick, got, want)
			}
		}
	}
}
