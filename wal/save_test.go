package wal_test

import (
	"bytes"
	"fmt"
	"math"
	"testing"

	"coxswain/api"
	"coxswain/disk"
	"coxswain/wal"
)

// based is a wal with a Hard, the snapshot of 5 and the entries 6 to 8, what it has saved, and its disk.
func based(t *testing.T) (*wal.Wal, api.Saved, *disk.Disk) {
	t.Helper()
	s := api.Saved{Hard: api.Hard{Term: 3, Vote: 2}, Snapshot: snapshot(5, 2), Entries: entries(6, 8, 3)}
	d := diskWith(t, hardFrame(s.Hard), snapshotFrame(s.Snapshot), entryFrames(s.Entries))
	return open(t, d), s, d
}

// stays holds that nothing was changed: what is saved, and the disk, of which nothing is left to sync.
func stays(t *testing.T, w *wal.Wal, s api.Saved, d *disk.Disk, data []byte, what string) {
	t.Helper()
	told(t, w.Saved(), s, "Saved behind "+what)
	hasFile(t, d, data, what)
	d.Crash(-1)
	hasFile(t, d, data, what+", crashed")
}

// TestSave: P4.2: one Append of the frames of the Hard and the entries, and a Sync.
func TestSave(t *testing.T) {
	d := disk.New()
	w := open(t, d)
	var data []byte
	var want api.Saved
	for _, x := range []struct {
		h    api.Hard
		l    []api.Entry
		left []api.Entry
	}{
		{api.Hard{Term: 1, Vote: 2}, nil, nil},
		{api.Hard{Term: 1, Vote: 2}, entries(1, 3, 1), entries(1, 3, 1)},
		{api.Hard{}, []api.Entry{}, entries(1, 3, 1)},
		{api.Hard{Term: api.MaxNumber}, entries(4, 4, 2), append(entries(1, 3, 1), entry(4, 2))},
		{api.Hard{Vote: api.MaxNumber}, entries(2, 3, 3), append(entries(1, 1, 1), entries(2, 3, 3)...)},
		{api.Hard{Term: 5, Vote: 5}, entries(3, 3, 4), append(append(entries(1, 1, 1), entry(2, 3)), entry(3, 4))},
		{api.Hard{Term: 6}, entries(1, 1, 5), entries(1, 1, 5)},
		{api.Hard{Term: 6}, entries(1, 4, 6), entries(1, 4, 6)},
	} {
		is(t, "Cut", d.Cut(2), api.OK)
		is(t, "Save", w.Save(x.h, x.l), api.OK)
		is(t, "Sync behind a Save of two operations", d.Sync(), api.ErrDisk)
		data = append(append(data, hardFrame(x.h)...), entryFrames(x.l)...)
		want.Hard, want.Entries = x.h, x.left
		what := fmt.Sprintf("Save(%v, %d entries)", x.h, len(x.l))
		stays(t, w, want, d, data, what)
		opens(t, d, want, what)
	}
}

// TestSaveFirst: P4.2: the first one's Index is 1 more than the Snapshot's up to 1 more than the last entry's.
func TestSaveFirst(t *testing.T) {
	for first := -2; first <= 12; first++ {
		for many := 1; many <= 5; many++ {
			w, s, d := based(t)
			data := file(d, "log")
			l := entries(first, first+many-1, 4)
			what := fmt.Sprintf("Save of %d from %d on", many, first)
			if first < 6 || first > 9 {
				is(t, what, w.Save(s.Hard, l), api.ErrArg)
				stays(t, w, s, d, data, what)
				continue
			}
			is(t, what, w.Save(s.Hard, l), api.OK)
			s.Entries = append(s.Entries[:first-6:first-6], l...)
			told(t, w.Saved(), s, what)
			opens(t, d, s, what)
		}
	}
}

// TestSaveFirstOfNothing: P4.2: of a wal without entries just the one behind the Snapshot's Index, or 1.
func TestSaveFirstOfNothing(t *testing.T) {
	for base := range 4 {
		for first := -1; first <= 6; first++ {
			d := disk.New()
			w := open(t, d)
			if base > 0 {
				is(t, "SaveSnapshot", w.SaveSnapshot(api.Hard{}, snapshot(base, 1), false), api.OK)
			}
			want := api.ErrArg
			if first == base+1 {
				want = api.OK
			}
			is(t, fmt.Sprintf("Save of %d behind %d", first, base), w.Save(api.Hard{}, entries(first, first, 1)), want)
		}
	}
}

// TestSaveLast: P4.2: the greatest Index.
func TestSaveLast(t *testing.T) {
	d := disk.New()
	w := open(t, d)
	s := snapshot(api.MaxNumber-2, 1)
	is(t, "SaveSnapshot", w.SaveSnapshot(api.Hard{}, s, true), api.OK)
	is(t, "Save", w.Save(api.Hard{}, entries(api.MaxNumber-1, api.MaxNumber+1, 1)), api.ErrArg)
	is(t, "Save", w.Save(api.Hard{}, entries(api.MaxNumber-1, api.MaxNumber, 1)), api.OK)
	is(t, "Save", w.Save(api.Hard{}, entries(api.MaxNumber+1, api.MaxNumber+1, 1)), api.ErrArg)
	opens(t, d, api.Saved{Snapshot: s, Entries: entries(api.MaxNumber-1, api.MaxNumber, 1)}, "the greatest entries")
	s = snapshot(api.MaxNumber, 1)
	is(t, "SaveSnapshot", w.SaveSnapshot(api.Hard{}, s, false), api.OK)
	is(t, "Save", w.Save(api.Hard{}, entries(api.MaxNumber+1, api.MaxNumber+1, 1)), api.ErrArg)
	opens(t, d, api.Saved{Snapshot: s}, "the greatest snapshot")
}

// badHards have a number that is not 0 to MaxNumber.
func badHards() []api.Hard {
	var out []api.Hard
	for _, n := range []int{-1, -2, -api.MaxNumber, api.MaxNumber + 1, math.MinInt, math.MaxInt} {
		out = append(out, api.Hard{Term: n}, api.Hard{Vote: n}, api.Hard{Term: 1, Vote: n}, api.Hard{Term: n, Vote: n})
	}
	return out
}

// badEntries are the entry 9, not to be written.
func badEntries() []api.Entry {
	var out []api.Entry
	for _, spoilt := range []func(x *api.Entry){
		func(x *api.Entry) { x.Term = api.MaxNumber + 1 },
		func(x *api.Entry) { x.Term = -api.MaxNumber - 1 },
		func(x *api.Entry) { x.Cmd.Op = math.MaxInt },
		func(x *api.Entry) { x.Cmd.Job.Groups[1].Ask.Mem = math.MinInt },
		func(x *api.Entry) { x.Cmd.Plan.Stops[1] = api.MaxNumber + 1 },
		func(x *api.Entry) { x.Cmd.Conf.Voters = make([]int, 65) },
		func(x *api.Entry) { x.Cmd.Reports = make([]api.Report, 65) },
	} {
		x := entry(9, 3)
		spoilt(&x)
		out = append(out, x)
	}
	return out
}

// TestSaveWrong: P4.2: what may not be handed in, at each place of a list; nothing is changed, and the wal goes on.
func TestSaveWrong(t *testing.T) {
	w, s, d := based(t)
	data := file(d, "log")
	wrong := func(what string, h api.Hard, l []api.Entry) {
		t.Helper()
		is(t, what, w.Save(h, l), api.ErrArg)
		stays(t, w, s, d, data, what)
	}
	good := entries(9, 9, 3)
	for _, h := range badHards() {
		wrong(fmt.Sprintf("Save of %v", h), h, nil)
		wrong(fmt.Sprintf("Save of %v with an entry", h), h, good)
	}
	for i, x := range badEntries() {
		wrong(fmt.Sprintf("Save of bad entry %d", i), s.Hard, []api.Entry{x})
		wrong(fmt.Sprintf("Save of bad entry %d behind others", i), s.Hard, append(entries(7, 8, 3), x))
		wrong(fmt.Sprintf("Save of bad entry %d ahead of another", i), s.Hard, []api.Entry{x, entry(10, 3)})
	}
	for _, indexes := range [][]int{{9, 9}, {9, 11}, {9, 8}, {8, 9, 11}, {6, 7, 9}, {6, 8, 7}, {7, 8, 8}, {9, 10, 9}, {8, 7}, {9, 0}, {9, -1}, {9, math.MaxInt}, {9, math.MinInt}, {math.MaxInt, math.MinInt}, {math.MaxInt}, {math.MinInt}, {math.MinInt, math.MinInt + 1}} {
		var l []api.Entry
		for _, index := range indexes {
			l = append(l, api.Entry{Index: index, Term: 3})
		}
		wrong(fmt.Sprintf("Save of entries %v", indexes), s.Hard, l)
	}
	is(t, "Save behind what was refused", w.Save(s.Hard, good), api.OK)
	s.Entries = append(s.Entries, good...)
	stays(t, w, s, d, append(append(data, hardFrame(s.Hard)...), entryFrames(good)...), "Save behind what was refused")
}

// bigFile is frames of so many bytes, which say what a Hard and the entries 6, 7 behind the snapshot of 5 do: snapshots ahead of that one fill it.
func bigFile(t *testing.T, size int) ([]byte, api.Saved) {
	t.Helper()
	s := api.Saved{Hard: api.Hard{Term: 3, Vote: 2}, Snapshot: snapshot(5, 2), Entries: entries(6, 7, 3)}
	end := bytes.Join([][]byte{hardFrame(s.Hard), snapshotFrame(s.Snapshot), entryFrames(s.Entries)}, nil)
	var out []byte
	for left := size - len(end); left > 0; left = size - len(end) - len(out) {
		// Data of more than 8192 bytes: their number has as many bytes whatever it is.
		filler := api.Snapshot{Index: 1, Data: make([]byte, 9000)}
		more := left - len(snapshotFrame(filler))
		if more > 20000 {
			more = 10000
		}
		filler.Data = make([]byte, 9000+more)
		out = append(out, snapshotFrame(filler)...)
	}
	out = append(out, end...)
	if len(out) != size {
		t.Fatalf("a file of %d bytes, not %d", len(out), size)
	}
	return out, s
}

// TestSaveLong: P4.2: a file of just 2^19 bytes is appended to; of one byte more it is written anew, with all that is saved then.
func TestSaveLong(t *testing.T) {
	h := api.Hard{Term: 4, Vote: 1}
	for _, l := range [][]api.Entry{nil, entries(8, 9, 4), entries(6, 6, 4), entries(7, 8, 4)} {
		more := append(hardFrame(h), entryFrames(l)...)
		for _, beyond := range []int{-1, 0, 1, 2, 100} {
			data, want := bigFile(t, 1<<19-len(more)+beyond)
			d := diskWith(t, data)
			w := opens(t, d, want, "a long file")
			want.Hard = h
			if len(l) > 0 {
				want.Entries = append(want.Entries[:l[0].Index-6:l[0].Index-6], l...)
			}
			operations := 2
			data = append(data, more...)
			if beyond > 0 {
				operations = 4
				data = bytes.Join([][]byte{hardFrame(h), snapshotFrame(want.Snapshot), entryFrames(want.Entries)}, nil)
			}
			what := fmt.Sprintf("Save of %d entries, %d beyond 2^19", len(l), beyond)
			is(t, "Cut", d.Cut(operations), api.OK)
			is(t, what, w.Save(h, l), api.OK)
			is(t, "Sync behind "+what, d.Sync(), api.ErrDisk)
			stays(t, w, want, d, data, what)
			w = opens(t, d, want, what)
			is(t, "Save behind "+what, w.Save(h, nil), api.OK)
			opens(t, d, want, what+", and another")
		}
	}
}

// TestSaveLongAlready: P4.2: a file that is longer when it is opened, and one that is torn there: what is left of it counts.
func TestSaveLongAlready(t *testing.T) {
	h := api.Hard{Term: 4, Vote: 1}
	data, want := bigFile(t, 1<<19+1)
	d := diskWith(t, data)
	w := opens(t, d, want, "a file of more than 2^19")
	hasFile(t, d, data, "a file of more than 2^19")
	is(t, "Save", w.Save(h, nil), api.OK)
	want.Hard = h
	short := bytes.Join([][]byte{hardFrame(h), snapshotFrame(want.Snapshot), entryFrames(want.Entries)}, nil)
	stays(t, w, want, d, short, "Save")
	for beyond := range 2 {
		data, want = bigFile(t, 1<<19-len(hardFrame(h))+beyond)
		d = diskWith(t, data, make([]byte, 10))
		w = opens(t, d, want, "a torn end beyond 2^19")
		is(t, "Save", w.Save(h, nil), api.OK)
		want.Hard = h
		stays(t, w, want, d, [][]byte{append(data, hardFrame(h)...), short}[beyond], "Save behind a torn end")
	}
}

// TestSaveLongNoSnapshot: P4.2: a file without a snapshot is written anew without one; many Saves, each in the place of the last one, don't lengthen it for ever.
func TestSaveLongNoSnapshot(t *testing.T) {
	d := disk.New()
	w := open(t, d)
	step := append(hardFrame(api.Hard{Term: 1}), entryFrame(wide(1))...)
	size := 0
	for range 2*(1<<19)/len(step) + 10 {
		is(t, "Save", w.Save(api.Hard{Term: 1}, wides(1, 1)), api.OK)
		size += len(step)
		if size > 1<<19 {
			size = len(step)
			hasFile(t, d, step, "a file that was written anew")
		}
		if got := len(file(d, "log")); got != size {
			t.Fatalf("a file of %d bytes, not %d", got, size)
		}
	}
	opens(t, d, api.Saved{Hard: api.Hard{Term: 1}, Entries: wides(1, 1)}, "many Saves")
}

// TestSaveLongIndex0: a snapshot of the Index 0, that only a file can have told, stays when the file is written anew.
func TestSaveLongIndex0(t *testing.T) {
	data, _ := bigFile(t, 1<<19)
	want := api.Saved{Hard: api.Hard{Term: 4}, Snapshot: snapshot(0, 2), Entries: entries(1, 2, 1)}
	d := diskWith(t, data, snapshotFrame(want.Snapshot), entryFrame(entry(1, 1)))
	is(t, "Save", open(t, d).Save(want.Hard, entries(2, 2, 1)), api.OK)
	hasFile(t, d, bytes.Join([][]byte{hardFrame(want.Hard), snapshotFrame(want.Snapshot), entryFrames(want.Entries)}, nil), "a file that was written anew")
	opens(t, d, want, "a snapshot of the Index 0")
}

// wide is an entry of some kilobytes.
func wide(index int) api.Entry {
	x := api.Entry{Index: index, Term: 1}
	x.Cmd.Plan.Places = make([]api.Alloc, 64)
	for i := range x.Cmd.Plan.Places {
		n := api.MaxNumber
		x.Cmd.Plan.Places[i] = api.Alloc{ID: n, Job: n, Version: n, Group: n, Index: n, Node: n, Epoch: n, Ask: api.Res{CPU: n, Mem: n}, State: n}
	}
	return x
}

func wides(first, last int) []api.Entry {
	var l []api.Entry
	for i := first; i <= last; i++ {
		l = append(l, wide(i))
	}
	return l
}

// TestSaveBeyondDisk: P4.2: more than 2^19 bytes may be saved, in one Save too, but no more than a file may have: the disk's error, and nothing behind it.
func TestSaveBeyondDisk(t *testing.T) {
	one := len(entryFrame(wide(1)))
	fit := (1<<20 - len(hardFrame(api.Hard{}))) / one
	d := disk.New()
	w := open(t, d)
	is(t, "Save of 2^19 bytes and more", w.Save(api.Hard{}, wides(1, fit-1)), api.OK)
	is(t, "Save of one more", w.Save(api.Hard{}, wides(fit, fit)), api.OK)
	want := api.Saved{Entries: wides(1, fit)}
	stays(t, w, want, d, append(hardFrame(api.Hard{}), entryFrames(want.Entries)...), "a file that is nearly full")
	is(t, "Save beyond a file's bytes", w.Save(api.Hard{Term: 1}, wides(fit+1, fit+1)), api.ErrFull)
	is(t, "Save behind one that was refused", w.Save(api.Hard{}, nil), api.ErrDisk)
	stays(t, w, want, d, append(hardFrame(api.Hard{}), entryFrames(want.Entries)...), "Save beyond a file's bytes")
	opens(t, d, want, "a file that is nearly full")

	d = disk.New()
	w = open(t, d)
	is(t, "Save of more than a file's bytes", w.Save(api.Hard{}, wides(1, fit+1)), api.ErrFull)
	is(t, "Save behind one that was refused", w.Save(api.Hard{}, nil), api.ErrDisk)
	told(t, w.Saved(), api.Saved{}, "Saved")
	opens(t, d, api.Saved{}, "a disk to which nothing was written")
}

// TestSaveNoRoom: P4.2, P4.4: a disk without room for the file; its error, then ErrDisk.
func TestSaveNoRoom(t *testing.T) {
	d := full(t, disk.New(), 64)
	w := open(t, d)
	is(t, "Save on a full disk", w.Save(api.Hard{}, nil), api.ErrFull)
	is(t, "Remove", d.Remove("other0"), api.OK)
	is(t, "Save behind one that was refused", w.Save(api.Hard{}, nil), api.ErrDisk)
	is(t, "Save by a wal that is opened anew", open(t, d).Save(api.Hard{}, nil), api.OK)
}
