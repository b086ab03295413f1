package wal_test

import (
	"bytes"
	"fmt"
	"math"
	"testing"

	"coxswain/api"
	"coxswain/disk"
)

// TestSaveSnapshot: P4.3: the file is written anew with the Hard, the snapshot and the entries above its Index, or none; for each Index from the saved one's to far beyond the last entry's.
func TestSaveSnapshot(t *testing.T) {
	for _, all := range []bool{false, true} {
		for _, index := range []int{5, 6, 7, 8, 9, 10, 1000, api.MaxNumber} {
			w, want, d := based(t)
			want.Hard = api.Hard{Term: 7, Vote: 1}
			want.Snapshot = snapshot(index, 6)
			var left []api.Entry
			for _, x := range want.Entries {
				if x.Index > index && !all {
					left = append(left, x)
				}
			}
			want.Entries = left
			what := fmt.Sprintf("SaveSnapshot of %d, %v", index, all)
			is(t, "Cut", d.Cut(4), api.OK)
			is(t, what, w.SaveSnapshot(want.Hard, want.Snapshot, all), api.OK)
			is(t, "Sync behind a SaveSnapshot of four operations", d.Sync(), api.ErrDisk)
			stays(t, w, want, d, bytes.Join([][]byte{hardFrame(want.Hard), snapshotFrame(want.Snapshot), entryFrames(want.Entries)}, nil), what)
			w = opens(t, d, want, what)
			if index < api.MaxNumber {
				next := index + 1 + len(left)
				is(t, "Save behind "+what, w.Save(want.Hard, entries(next, next, 8)), api.OK)
				want.Entries = append(want.Entries, entry(next, 8))
				opens(t, d, want, what+", and an entry")
			}
		}
	}
}

// TestSaveSnapshotFirst: P4.3: of a wal in which nothing is saved, and of one with entries alone.
func TestSaveSnapshotFirst(t *testing.T) {
	for many := range 4 {
		for index := 1; index < 5; index++ {
			d := disk.New()
			w := open(t, d)
			if many > 0 {
				is(t, "Save", w.Save(api.Hard{}, entries(1, many, 1)), api.OK)
			}
			is(t, "SaveSnapshot", w.SaveSnapshot(api.Hard{Vote: 1}, snapshot(index, 1), false), api.OK)
			want := api.Saved{Hard: api.Hard{Vote: 1}, Snapshot: snapshot(index, 1), Entries: entries(index+1, many, 1)}
			told(t, w.Saved(), want, "Saved")
			opens(t, d, want, fmt.Sprintf("snapshot %d of %d entries", index, many))
		}
	}
}

// TestSaveSnapshotSizes: P4.3: the least and the greatest that may be written.
func TestSaveSnapshotSizes(t *testing.T) {
	d := disk.New()
	w := open(t, d)
	greatest := api.Snapshot{Index: 1, Term: -api.MaxNumber, Conf: api.Conf{Voters: make([]int, 64), Learners: make([]int, 64)}, Data: bytes.Repeat([]byte{7}, 65536)}
	for _, s := range []api.Snapshot{{Index: 1}, greatest, {Index: 1, Conf: api.Conf{Voters: []int{}}, Data: []byte{}}} {
		is(t, "SaveSnapshot", w.SaveSnapshot(api.Hard{}, s, false), api.OK)
		told(t, w.Saved(), api.Saved{Snapshot: s}, "Saved")
		opens(t, d, api.Saved{Snapshot: s}, "a snapshot")
	}
}

// TestSaveSnapshotWrong: P4.3: what may not be handed in; nothing is changed, and the wal goes on.
func TestSaveSnapshotWrong(t *testing.T) {
	w, s, d := based(t)
	data := file(d, "log")
	wrong := func(what string, h api.Hard, x api.Snapshot) {
		t.Helper()
		for _, all := range []bool{false, true} {
			is(t, what, w.SaveSnapshot(h, x, all), api.ErrArg)
			stays(t, w, s, d, data, what)
		}
	}
	for _, h := range badHards() {
		wrong(fmt.Sprintf("SaveSnapshot of %v", h), h, snapshot(6, 2))
	}
	for _, index := range []int{0, 1, 4, -1, -5, -api.MaxNumber, math.MinInt, api.MaxNumber + 1, math.MaxInt} {
		wrong(fmt.Sprintf("SaveSnapshot of %d", index), s.Hard, snapshot(index, 2))
	}
	for i, spoilt := range []func(x *api.Snapshot){
		func(x *api.Snapshot) { x.Term = api.MaxNumber + 1 },
		func(x *api.Snapshot) { x.Term = math.MinInt },
		func(x *api.Snapshot) { x.Conf.Voters[1] = api.MaxNumber + 1 },
		func(x *api.Snapshot) { x.Conf.Learners[0] = -api.MaxNumber - 1 },
		func(x *api.Snapshot) { x.Conf.Voters = make([]int, 65) },
		func(x *api.Snapshot) { x.Conf.Learners = make([]int, 65) },
		func(x *api.Snapshot) { x.Data = make([]byte, 65537) },
	} {
		x := snapshot(6, 2)
		spoilt(&x)
		wrong(fmt.Sprintf("SaveSnapshot of bad snapshot %d", i), s.Hard, x)
	}
	is(t, "SaveSnapshot behind what was refused", w.SaveSnapshot(s.Hard, snapshot(6, 2), false), api.OK)
	opens(t, d, api.Saved{Hard: s.Hard, Snapshot: snapshot(6, 2), Entries: s.Entries[1:]}, "a snapshot")
}

// TestSaveSnapshotWrongFirst: P4.3: an Index below 1, where none is saved.
func TestSaveSnapshotWrongFirst(t *testing.T) {
	d := disk.New()
	w := open(t, d)
	for _, index := range []int{0, -1, math.MinInt} {
		is(t, "SaveSnapshot", w.SaveSnapshot(api.Hard{}, snapshot(index, 1), true), api.ErrArg)
		is(t, "SaveSnapshot", w.SaveSnapshot(api.Hard{}, snapshot(index, 1), false), api.ErrArg)
	}
	if got := d.List(); len(got) > 0 {
		t.Fatalf("files %q", got)
	}
	is(t, "SaveSnapshot", w.SaveSnapshot(api.Hard{}, snapshot(1, 1), true), api.OK)
}

// TestSaveSnapshotOverOld: P4.3: a file `log.new` that a crash left is written over.
func TestSaveSnapshotOverOld(t *testing.T) {
	w, want, d := based(t)
	is(t, "Put", d.Put("log.new", []byte("of old")), api.OK)
	is(t, "SaveSnapshot", w.SaveSnapshot(want.Hard, snapshot(8, 3), false), api.OK)
	hasFile(t, d, append(hardFrame(want.Hard), snapshotFrame(snapshot(8, 3))...), "a snapshot")
}

// TestSaveSnapshotFull: P4.3, P4.4: the disk's error, then ErrDisk, for whatever is asked, and on whatever became of the disk.
func TestSaveSnapshotFull(t *testing.T) {
	w, want, d := based(t)
	full(t, d, 64)
	is(t, "SaveSnapshot on a full disk", w.SaveSnapshot(api.Hard{}, snapshot(8, 3), false), api.ErrFull)
	told(t, w.Saved(), want, "Saved")
	is(t, "Remove", d.Remove("other0"), api.OK)
	is(t, "SaveSnapshot behind one that was refused", w.SaveSnapshot(api.Hard{}, snapshot(8, 3), false), api.ErrDisk)
	opens(t, d, want, "a disk that refused")
}
