package wal_test

import (
	"bytes"
	"fmt"
	"testing"

	"coxswain/api"
	"coxswain/disk"
	"coxswain/wal"
)

// TestExamples: the chapter's, one behind the other.
func TestExamples(t *testing.T) {
	h := api.Hard{Term: 1, Vote: 2}
	one, two := entry(1, 1), entry(2, 1)
	d := disk.New()
	w := opens(t, d, api.Saved{}, "a new disk")
	is(t, "Save of entry 1", w.Save(h, []api.Entry{one}), api.OK)
	is(t, "Save of entries 1, 2", w.Save(h, []api.Entry{one, two}), api.OK)
	is(t, "Save of entry 4", w.Save(h, []api.Entry{entry(4, 1)}), api.ErrArg)

	w = opens(t, d, api.Saved{Hard: h, Entries: []api.Entry{one, two}}, "entries 1, 2")

	s := snapshot(1, 1)
	is(t, "SaveSnapshot", w.SaveSnapshot(h, s, false), api.OK)
	w = opens(t, d, api.Saved{Hard: h, Snapshot: s, Entries: []api.Entry{two}}, "a snapshot, not all")
	is(t, "SaveSnapshot", w.SaveSnapshot(h, s, true), api.OK)
	w = opens(t, d, api.Saved{Hard: h, Snapshot: s}, "a snapshot, all")

	is(t, "Save", w.Save(h, []api.Entry{two}), api.OK)
	data := file(d, "log")
	is(t, "Put", d.Put("log", data[:len(data)-1]), api.OK)
	opens(t, d, api.Saved{Hard: h, Snapshot: s}, "a file whose last byte is gone")
	data = file(d, "log")
	data[4]++
	is(t, "Put", d.Put("log", data), api.OK)
	refuses(t, d, api.ErrCorrupt, "a file whose fifth byte is another one")
}

// TestOpenNoDisk: P4.1.
func TestOpenNoDisk(t *testing.T) {
	refuses(t, nil, api.ErrArg, "no disk")
}

// TestOpenNothing: P4.1: without a file, or with an empty one, nothing is saved; nothing is written, so that a cut disk is opened too; other files are not looked at.
func TestOpenNothing(t *testing.T) {
	other := bytes.Join([][]byte{hardFrame(api.Hard{Term: 7}), []byte("torn")}, nil)
	for _, made := range []bool{false, true} {
		d := disk.New()
		is(t, "Put", d.Put("log.new", other), api.OK)
		is(t, "Put", d.Put("log.old", []byte{1, 2, 3}), api.OK)
		if made {
			is(t, "Put", d.Put("log", nil), api.OK)
		}
		names := fmt.Sprint(d.List())
		is(t, "Cut", d.Cut(0), api.OK)
		opens(t, d, api.Saved{}, "a disk with nothing saved")
		if got := fmt.Sprint(d.List()); got != names || !bytes.Equal(file(d, "log.new"), other) {
			t.Fatalf("Open left %s, not %s", got, names)
		}
		is(t, "Cut", d.Cut(2), api.OK)
		w := opens(t, d, api.Saved{}, "a disk with nothing saved")
		is(t, "Save, with just its operations left", w.Save(api.Hard{Term: 1}, nil), api.OK)
	}
}

// saying is files by their frames, and what they say.
type saying struct {
	what   string
	frames [][]byte
	said   api.Saved
}

func sayings() []saying {
	h, g := api.Hard{Term: 3, Vote: 2}, api.Hard{Term: 4}
	most := api.Hard{Term: api.MaxNumber, Vote: api.MaxNumber}
	e := func(index, term int) []byte { return entryFrame(entry(index, term)) }
	s := func(index, term int) []byte { return snapshotFrame(snapshot(index, term)) }
	last := entry(api.MaxNumber, 1)
	return []saying{
		{"a Hard", [][]byte{hardFrame(h)}, api.Saved{Hard: h}},
		{"the last Hard", [][]byte{hardFrame(h), hardFrame(most), hardFrame(g)}, api.Saved{Hard: g}},
		{"a Hard of 0 behind another", [][]byte{hardFrame(h), hardFrame(api.Hard{})}, api.Saved{}},
		{"the greatest Hard", [][]byte{hardFrame(most)}, api.Saved{Hard: most}},
		{"entries without a Hard", [][]byte{e(1, 1), e(2, 1)}, api.Saved{Entries: entries(1, 2, 1)}},
		{"an entry in the place of all", [][]byte{e(1, 1), e(2, 1), e(3, 1), e(1, 2)}, api.Saved{Entries: entries(1, 1, 2)}},
		{"entries in the place of some", [][]byte{e(1, 1), e(2, 1), e(3, 1), hardFrame(h), e(2, 2), e(3, 2)}, api.Saved{Hard: h, Entries: append(entries(1, 1, 1), entries(2, 3, 2)...)}},
		{"an entry in the place of the last", [][]byte{e(1, 1), e(2, 1), e(2, 2)}, api.Saved{Entries: append(entries(1, 1, 1), entry(2, 2))}},
		{"a snapshot", [][]byte{s(5, 2)}, api.Saved{Snapshot: snapshot(5, 2)}},
		{"entries behind a snapshot", [][]byte{hardFrame(h), s(5, 2), e(6, 2), e(7, 3), hardFrame(g)}, api.Saved{Hard: g, Snapshot: snapshot(5, 2), Entries: []api.Entry{entry(6, 2), entry(7, 3)}}},
		{"entries ahead of a snapshot go", [][]byte{e(1, 1), e(2, 1), s(1, 1), e(2, 2)}, api.Saved{Snapshot: snapshot(1, 1), Entries: entries(2, 2, 2)}},
		{"entries ahead of a snapshot go, all", [][]byte{hardFrame(h), e(1, 1), e(2, 1), e(3, 1), s(1, 1)}, api.Saved{Hard: h, Snapshot: snapshot(1, 1)}},
		{"the last snapshot", [][]byte{s(5, 2), e(6, 2), s(9, 2), e(10, 2)}, api.Saved{Snapshot: snapshot(9, 2), Entries: entries(10, 10, 2)}},
		{"a snapshot of the Index of the one ahead", [][]byte{s(5, 2), e(6, 2), s(5, 3)}, api.Saved{Snapshot: snapshot(5, 3)}},
		{"entries in the place of others behind a snapshot", [][]byte{s(5, 2), e(6, 2), e(7, 2), e(6, 3)}, api.Saved{Snapshot: snapshot(5, 2), Entries: entries(6, 6, 3)}},
		{"a snapshot of a lesser Index behind another", [][]byte{s(5, 2), e(6, 2), s(3, 1), e(4, 2)}, api.Saved{Snapshot: snapshot(3, 1), Entries: entries(4, 4, 2)}},
		{"a snapshot of the Index 0", [][]byte{e(1, 1), s(0, 2), e(1, 3)}, api.Saved{Snapshot: snapshot(0, 2), Entries: entries(1, 1, 3)}},
		{"the greatest snapshot", [][]byte{s(api.MaxNumber, 1)}, api.Saved{Snapshot: snapshot(api.MaxNumber, 1)}},
		{"the greatest entry", [][]byte{s(api.MaxNumber-1, 1), entryFrame(last)}, api.Saved{Snapshot: snapshot(api.MaxNumber-1, 1), Entries: []api.Entry{last}}},
		{"entries with nothing in them", [][]byte{entryFrame(api.Entry{Index: 1}), snapshotFrame(api.Snapshot{Index: 1}), entryFrame(api.Entry{Index: 2, Term: -1})}, api.Saved{Snapshot: api.Snapshot{Index: 1}, Entries: []api.Entry{{Index: 2, Term: -1}}}},
	}
}

// TestOpenSays: P4.1: what the file says is what its frames say, one behind the other. A whole file is not written to.
func TestOpenSays(t *testing.T) {
	for _, x := range sayings() {
		d := diskWith(t, x.frames...)
		is(t, "Cut", d.Cut(0), api.OK)
		opens(t, d, x.said, x.what)
		hasFile(t, d, bytes.Join(x.frames, nil), x.what)
	}
}

// saysFirst is what the first frames of a saying say.
func saysFirst(t *testing.T, x saying, n int) api.Saved {
	t.Helper()
	_, s, e := wal.Open(diskWith(t, x.frames[:n]...))
	is(t, "Open of whole frames", e, api.OK)
	return s
}

// TestOpenTorn: P4.1: of a file that is cut at each of its bytes the whole frames are read; the file has no torn end afterwards, that is durable, and more can be saved behind it.
func TestOpenTorn(t *testing.T) {
	for _, x := range sayings() {
		data := bytes.Join(x.frames, nil)
		n, whole := 0, 0
		for cut := range len(data) {
			if cut == whole+len(x.frames[n]) {
				whole += len(x.frames[n])
				n++
			}
			said := saysFirst(t, x, n)
			what := fmt.Sprintf("%s, cut at %d", x.what, cut)
			d := diskWith(t, data[:cut])
			w := opens(t, d, said, what)
			hasFile(t, d, data[:whole], what)
			d.Crash(0)
			hasFile(t, d, data[:whole], what+", crashed")
			h := api.Hard{Term: 9, Vote: 1}
			is(t, "Save", w.Save(h, nil), api.OK)
			hasFile(t, d, append(data[:whole:whole], hardFrame(h)...), what+", saved")
			said.Hard = h
			opens(t, d, said, what+", saved")
		}
	}
}

// TestOpenTornBytes: P4.1: whatever few bytes stand behind the last whole frame, they are torn; so is the first part of a frame of any kind.
func TestOpenTornBytes(t *testing.T) {
	h := api.Hard{Term: 3, Vote: 2}
	ends := [][]byte{{0}, {255}, bytes.Repeat([]byte{255}, 10), make([]byte, 10), make([]byte, 14)}
	for _, kind := range []int{0, 1, 2, 3, 4, 255} {
		f := frame(kind, 77, []byte("no body of any kind"))
		for n := 1; n < len(f); n++ {
			ends = append(ends, f[:n])
		}
	}
	// The greatest length that a frame may have.
	ends = append(ends, []byte{0, 16, 0, 0, 1, 0, 0, 0, 0, 0, 0}, append([]byte{0, 16, 0, 0, 9, 1, 0, 0, 0, 0, 0}, make([]byte, 5000)...))
	for _, end := range ends {
		d := diskWith(t, hardFrame(h), end)
		opens(t, d, api.Saved{Hard: h}, fmt.Sprintf("%x behind a frame", first(end)))
		hasFile(t, d, hardFrame(h), "a torn end")
	}
}

// TestOpenTornCut: P4.1: a torn end is cut off by a Put, a Sync, a Rename and a Sync; the error of these; and whatever persists, a torn end stays torn or is gone.
func TestOpenTornCut(t *testing.T) {
	h := api.Hard{Term: 3, Vote: 2}
	said := api.Saved{Hard: h, Entries: entries(1, 2, 1)}
	for n := range 5 {
		for pick := range 3 {
			d := diskWith(t, hardFrame(h), entryFrames(said.Entries), hardFrame(h)[:9])
			is(t, "Cut", d.Cut(n), api.OK)
			what := fmt.Sprintf("a torn end, cut behind %d operations", n)
			if n < 4 {
				refuses(t, d, api.ErrDisk, what)
			} else {
				opens(t, d, said, what)
				hasFile(t, d, append(hardFrame(h), entryFrames(said.Entries)...), what)
			}
			d.Crash(pick)
			opens(t, d, said, fmt.Sprintf("%s, Crash(%d)", what, pick))
			hasFile(t, d, append(hardFrame(h), entryFrames(said.Entries)...), what)
		}
	}
}

// full adds files to a disk till it has so many.
func full(t *testing.T, d *disk.Disk, many int) *disk.Disk {
	t.Helper()
	for i := 0; len(d.List()) < many; i++ {
		is(t, "Put", d.Put(fmt.Sprintf("other%d", i), nil), api.OK)
	}
	is(t, "Sync", d.Sync(), api.OK)
	return d
}

// TestOpenTornFull: P4.1: a disk that has no room for one more file refuses the Put; a whole file is opened there.
func TestOpenTornFull(t *testing.T) {
	h := api.Hard{Term: 3, Vote: 2}
	refuses(t, full(t, diskWith(t, hardFrame(h), []byte{0}), 64), api.ErrFull, "a torn end on a full disk")
	opens(t, full(t, diskWith(t, hardFrame(h), []byte{0}), 63), api.Saved{Hard: h}, "a torn end on a disk with room for a file")
	opens(t, full(t, diskWith(t, hardFrame(h)), 64), api.Saved{Hard: h}, "a whole file on a full disk")
}

// badFrames are frames that may not stand behind Hard 3, 2, the snapshot of 5 and the entries 6, 7.
func badFrames() map[string][]byte {
	x, s := entry(8, 3), snapshot(9, 3)
	below := snapshot(9, 3)
	below.Index = -1
	bad := map[string][]byte{
		"a Hard of no byte":                   frame(1, 0, nil),
		"a Hard of one number":                frame(1, 0, number(3)),
		"a Hard of three numbers":             frame(1, 0, append(pair(3, 2), 0)),
		"a Hard of five numbers":              frame(1, 0, append(pair(3, 2), 0, 0, 0)),
		"a Hard and a list":                   frame(1, 0, append(pair(3, 2), 2, 2)),
		"a Hard and bytes":                    frame(1, 0, append(pair(3, 2), 0, 0, 6)),
		"a Hard with a number of a long form": frame(1, 0, append(number(3), 132, 0)),
		"a Hard whose last number has no end": frame(1, 0, append(number(3), 132)),
		"a Hard with a Term below 0":          frame(1, 0, pair(-1, 2)),
		"a Hard with a Vote below 0":          frame(1, 0, pair(3, -1)),
		"a Hard with a Term beyond":           frame(1, 0, pair(api.MaxNumber+1, 2)),
		"a Hard with a Vote beyond":           frame(1, 0, pair(3, api.MaxNumber+1)),
		"a Hard at 1":                         frame(1, 1, pair(3, 2)),
		"a Hard at its Term":                  frame(1, 3, pair(3, 2)),
		"a Hard at the greatest place":        frame(1, api.MaxNumber, pair(3, 2)),
		"an entry of no byte":                 frame(2, 8, nil),
		"an entry without its last byte":      frame(2, 8, entryBody(x)[:len(entryBody(x))-1]),
		"an entry and a byte":                 frame(2, 8, append(entryBody(x), 0)),
		"a command":                           frame(2, 8, make([]byte, 27)),
		"an entry at the place ahead":         frame(2, 7, entryBody(x)),
		"an entry at the place behind":        frame(2, 9, entryBody(x)),
		"an entry at 0":                       frame(2, 0, entryBody(x)),
		"an entry's body in a Hard's frame":   frame(1, 0, entryBody(x)),
		"an entry of the Index -1":            frame(2, 0, entryBody(api.Entry{Index: -1})),
		"an entry of the Index -8":            frame(2, 8, entryBody(api.Entry{Index: -8})),
		"a snapshot of no byte":               frame(3, 9, nil),
		"a snapshot without its last byte":    frame(3, 9, snapshotBody(s)[:len(snapshotBody(s))-1]),
		"a snapshot and a byte":               frame(3, 9, append(snapshotBody(s), 0)),
		"a snapshot at the place ahead":       frame(3, 8, snapshotBody(s)),
		"a snapshot at the place behind":      frame(3, 10, snapshotBody(s)),
		"a snapshot at 0":                     frame(3, 0, snapshotBody(s)),
		"a snapshot at its Term":              frame(3, 3, snapshotBody(s)),
		"a snapshot of the Index -1":          frame(3, 0, snapshotBody(below)),
		"a snapshot of the Index -1, at 1":    frame(3, 1, snapshotBody(below)),
		"an entry's frame with a snapshot":    frame(2, 9, snapshotBody(s)),
		"a snapshot's frame with an entry":    frame(3, 8, entryBody(x)),
		"a length beyond":                     {0, 16, 0, 1, 1, 0, 0, 0, 0, 0, 0},
		"a place beyond":                      {0, 0, 0, 2, 1, 1, 0, 0, 0, 0, 1},
	}
	for _, kind := range []int{0, 4, 5, 7, 128, 255} {
		bad[fmt.Sprintf("a Hard's frame of kind %d", kind)] = frame(kind, 0, pair(3, 2))
		bad[fmt.Sprintf("an entry's frame of kind %d", kind)] = frame(kind, 8, entryBody(x))
		bad[fmt.Sprintf("a snapshot's frame of kind %d", kind)] = frame(kind, 9, snapshotBody(s))
		bad[fmt.Sprintf("a frame of kind %d with nothing in it", kind)] = frame(kind, 0, nil)
	}
	for _, index := range []int{0, 1, 4, 5, 9, 10, 100, api.MaxNumber} {
		bad[fmt.Sprintf("an entry of the Index %d", index)] = entryFrame(entry(index, 3))
	}
	return bad
}

// TestOpenCorrupt: P4.1: wherever such a frame stands, and whatever stands behind it; nothing is written.
func TestOpenCorrupt(t *testing.T) {
	base := [][]byte{hardFrame(api.Hard{Term: 3, Vote: 2}), snapshotFrame(snapshot(5, 2)), entryFrame(entry(6, 2)), entryFrame(entry(7, 3))}
	behind := [][]byte{nil, {0}, {255, 255, 255}, entryFrame(entry(6, 3)), snapshotFrame(snapshot(1, 1)), hardFrame(api.Hard{})[:12]}
	for what, bad := range badFrames() {
		for i, end := range behind {
			d := diskWith(t, append(append([][]byte{}, base...), bad, end)...)
			data := file(d, "log")
			refuses(t, d, api.ErrCorrupt, fmt.Sprintf("%s, end %d", what, i))
			hasFile(t, d, data, what)
			d.Crash(0)
			hasFile(t, d, data, what)
		}
	}
}

// TestOpenCorruptFirst: P4.1: with nothing ahead: the first entry's Index is 1.
func TestOpenCorruptFirst(t *testing.T) {
	for _, index := range []int{0, 2, 3, api.MaxNumber} {
		refuses(t, diskWith(t, entryFrame(entry(index, 1))), api.ErrCorrupt, fmt.Sprintf("entry %d alone", index))
		refuses(t, diskWith(t, hardFrame(api.Hard{}), entryFrame(entry(index, 1))), api.ErrCorrupt, fmt.Sprintf("entry %d behind a Hard", index))
	}
	opens(t, diskWith(t, entryFrame(entry(1, 1))), api.Saved{Entries: entries(1, 1, 1)}, "entry 1 alone")
	// Entries that were there ahead of a snapshot are not stood behind any more.
	refuses(t, diskWith(t, entryFrames(entries(1, 5, 1)), snapshotFrame(snapshot(2, 1)), entryFrame(entry(4, 1))), api.ErrCorrupt, "entry 4 behind snapshot 2")
	refuses(t, diskWith(t, entryFrames(entries(1, 5, 1)), snapshotFrame(snapshot(2, 1)), entryFrame(entry(2, 1))), api.ErrCorrupt, "entry 2 behind snapshot 2")
	// Nor are those whose place was taken.
	refuses(t, diskWith(t, entryFrames(entries(1, 5, 1)), entryFrame(entry(2, 2)), entryFrame(entry(4, 1))), api.ErrCorrupt, "entry 4 behind an entry 2 in the place of 2 to 5")
}

// TestOpenChanged: P4.1: a file of which any byte is another one: ErrCorrupt, but where a frame's length now reaches beyond the file's end: this frame and all behind it are torn.
func TestOpenChanged(t *testing.T) {
	x := saying{"", [][]byte{hardFrame(api.Hard{Term: 300, Vote: 2}), snapshotFrame(snapshot(5, 2)), entryFrame(entry(6, 2)), hardFrame(api.Hard{Term: 301}), entryFrame(entry(7, 3))}, api.Saved{}}
	data := bytes.Join(x.frames, nil)
	start := 0
	torn := 0
	for n, f := range x.frames {
		said := saysFirst(t, x, n)
		for i := range f {
			for _, flip := range []byte{1, 2, 4, 8, 16, 32, 64, 128, 255} {
				other := bytes.Clone(data)
				other[start+i] ^= flip
				d := diskWith(t, other)
				what := fmt.Sprintf("a file with byte %d of frame %d changed by %d", i, n, flip)
				head := other[start:]
				length := int(head[0])<<24 | int(head[1])<<16 | int(head[2])<<8 | int(head[3])
				if length <= 1<<20 && 11+length+4 > len(head) {
					torn++
					opens(t, d, said, what)
					continue
				}
				refuses(t, d, api.ErrCorrupt, what)
			}
		}
		start += len(f)
	}
	if torn == 0 {
		t.Fatal("no length reached beyond the file's end")
	}
}
