package wal_test

import (
	"bytes"
	"fmt"
	"testing"

	"coxswain/api"
	"coxswain/disk"
	"coxswain/wal"
)

// afterRefusal holds P4.4: every call answers ErrDisk, whatever it is asked, and writes nothing; Saved goes on.
func afterRefusal(t *testing.T, w *wal.Wal, want api.Saved, d *disk.Disk) {
	t.Helper()
	names, data, other := fmt.Sprint(d.List()), file(d, "log"), file(d, "log.new")
	for range 2 {
		is(t, "Save", w.Save(api.Hard{Term: 9}, nil), api.ErrDisk)
		is(t, "Save of what may not be", w.Save(api.Hard{Term: -1}, nil), api.ErrDisk)
		is(t, "Save of entries that may not be", w.Save(api.Hard{}, entries(1<<20, 1<<20, 1)), api.ErrDisk)
		is(t, "SaveSnapshot", w.SaveSnapshot(api.Hard{}, snapshot(1<<20, 1), true), api.ErrDisk)
		is(t, "SaveSnapshot of what may not be", w.SaveSnapshot(api.Hard{}, api.Snapshot{}, false), api.ErrDisk)
		told(t, w.Saved(), want, "Saved behind a call that was refused")
	}
	if fmt.Sprint(d.List()) != names || !bytes.Equal(file(d, "log"), data) || !bytes.Equal(file(d, "log.new"), other) {
		t.Fatal("a wal that was refused wrote to the disk")
	}
}

// refusal is a call that a cut disk refuses, and what may be there behind a crash.
type refusal struct {
	what       string
	operations int
	disk       func() *disk.Disk
	call       func(w *wal.Wal) api.Errno
	maybe      []api.Saved // the first is what was saved ahead of it, the last what it saves
}

// refusals are calls of each kind that writes.
func refusals(t *testing.T) []refusal {
	t.Helper()
	_, s, _ := based(t)
	basedDisk := func() *disk.Disk { _, _, d := based(t); return d }
	h := api.Hard{Term: 4, Vote: 1}
	hardSaved := api.Saved{Hard: h, Snapshot: s.Snapshot, Entries: s.Entries}
	withEntries := func(keep int, l []api.Entry) api.Saved {
		return api.Saved{Hard: h, Snapshot: s.Snapshot, Entries: append(s.Entries[:keep:keep], l...)}
	}
	long := func() *disk.Disk { data, _ := bigFile(t, 1<<19); return diskWith(t, data) }
	_, longSaved := bigFile(t, 1<<19)
	x := snapshot(7, 3)
	return []refusal{
		{"Save of a Hard on a new disk", 2, disk.New,
			func(w *wal.Wal) api.Errno { return w.Save(h, nil) },
			[]api.Saved{{}, {Hard: h}}},
		{"Save of entries on a new disk", 2, disk.New,
			func(w *wal.Wal) api.Errno { return w.Save(h, entries(1, 2, 1)) },
			[]api.Saved{{}, {Hard: h}, {Hard: h, Entries: entries(1, 1, 1)}, {Hard: h, Entries: entries(1, 2, 1)}}},
		{"Save of entries behind others", 2, basedDisk,
			func(w *wal.Wal) api.Errno { return w.Save(h, entries(9, 10, 4)) },
			[]api.Saved{s, hardSaved, withEntries(3, entries(9, 9, 4)), withEntries(3, entries(9, 10, 4))}},
		{"Save of entries in the place of others", 2, basedDisk,
			func(w *wal.Wal) api.Errno { return w.Save(h, entries(6, 8, 4)) },
			[]api.Saved{s, hardSaved, withEntries(0, entries(6, 6, 4)), withEntries(0, entries(6, 7, 4)), withEntries(0, entries(6, 8, 4))}},
		{"Save beyond 2^19 bytes", 4, long,
			func(w *wal.Wal) api.Errno { return w.Save(h, entries(7, 8, 4)) },
			[]api.Saved{longSaved, {Hard: h, Snapshot: longSaved.Snapshot, Entries: append(entries(6, 6, 3), entries(7, 8, 4)...)}}},
		{"SaveSnapshot on a new disk", 4, disk.New,
			func(w *wal.Wal) api.Errno { return w.SaveSnapshot(h, x, true) },
			[]api.Saved{{}, {Hard: h, Snapshot: x}}},
		{"SaveSnapshot", 4, basedDisk,
			func(w *wal.Wal) api.Errno { return w.SaveSnapshot(h, x, false) },
			[]api.Saved{s, {Hard: h, Snapshot: x, Entries: s.Entries[2:]}}},
		{"SaveSnapshot of all", 4, basedDisk,
			func(w *wal.Wal) api.Errno { return w.SaveSnapshot(h, x, true) },
			[]api.Saved{s, {Hard: h, Snapshot: x}}},
	}
}

// TestKept: P4.4, P4.5: the disk is cut behind each operation, and each number of units persists.
func TestKept(t *testing.T) {
	for _, x := range refusals(t) {
		seen := map[int]int{}
		for n := range x.operations {
			for pick, units := 0, 1; pick <= units; pick++ {
				d := x.disk()
				w := opens(t, d, x.maybe[0], x.what)
				is(t, "Cut", d.Cut(n), api.OK)
				is(t, x.what, x.call(w), api.ErrDisk)
				afterRefusal(t, w, x.maybe[0], d)
				units = written(d, n, x.operations)
				d.Crash(pick)
				afterRefusal(t, w, x.maybe[0], d)
				seen[opensOneOf(t, d, x.maybe, fmt.Sprintf("%s, cut behind %d, Crash(%d)", x.what, n, pick))]++
			}
		}
		for i := range x.maybe {
			if seen[i] == 0 {
				t.Errorf("%s: what %d of its frames say was never told", x.what, i)
			}
		}
		d := x.disk()
		w := open(t, d)
		is(t, "Cut", d.Cut(x.operations), api.OK)
		is(t, x.what, x.call(w), api.OK)
		d.Crash(0)
		opens(t, d, x.maybe[len(x.maybe)-1], x.what)
	}
}

// written is at least how many units were done and not synced, when the disk is cut behind n operations.
func written(d *disk.Disk, n, operations int) int {
	if n == 1 && operations == 2 {
		return len(file(d, "log"))
	}
	return 1
}

// opensOneOf tells which of several things a disk says; and more can be saved behind it, that is there then.
func opensOneOf(t *testing.T, d *disk.Disk, maybe []api.Saved, what string) int {
	t.Helper()
	w, s, e := wal.Open(d)
	is(t, "Open of "+what, e, api.OK)
	d.Crash(0)
	told(t, open(t, d).Saved(), s, "Open twice of "+what)
	which := -1
	for i, x := range maybe {
		if alike(s, x) {
			which = i
		}
	}
	if which < 0 {
		t.Fatalf("Open of %s: %s", what, short(s))
	}
	s.Hard = api.Hard{Term: 99}
	next := s.Snapshot.Index + len(s.Entries) + 1
	s.Entries = append(s.Entries, entry(next, 99))
	is(t, "Save behind "+what, w.Save(s.Hard, entries(next, next, 99)), api.OK)
	d.Crash(0)
	opens(t, d, s, what+", and a Save")
	return which
}

// TestRefusedOnce: P4.4: it is the wal that may not be asked any more: one that is opened on the same disk, which is cut no more, may.
func TestRefusedOnce(t *testing.T) {
	w, want, d := based(t)
	is(t, "Cut", d.Cut(0), api.OK)
	is(t, "Save", w.Save(want.Hard, nil), api.ErrDisk)
	is(t, "Cut", d.Cut(1<<30), api.OK)
	afterRefusal(t, w, want, d)
	other := opens(t, d, want, "a disk that is cut no more")
	is(t, "Save", other.Save(want.Hard, entries(9, 9, 3)), api.OK)
	afterRefusal(t, w, want, d)
}

// TestNotHandedOn: what is handed in is not changed; what becomes of it, and of what was answered, is not seen in what is saved.
func TestNotHandedOn(t *testing.T) {
	h := api.Hard{Term: 1, Vote: 2}
	d := disk.New()
	w := open(t, d)
	l := append(make([]api.Entry, 0, 9), entries(1, 3, 1)...)
	l[2].Cmd.Plan.Stops = append(make([]int, 0, 9), 1, 2, 3)
	want := api.Saved{Hard: h, Entries: entries(1, 3, 1)}
	want.Entries[2].Cmd.Plan.Stops = []int{1, 2, 3}
	is(t, "Save", w.Save(h, l), api.OK)
	told(t, api.Saved{Hard: h, Entries: l}, want, "entries that were handed in")
	spoil(&l)
	checkSpoilt(t, w, d, want, "Save")

	s := snapshot(2, 1)
	s.Data = append(make([]byte, 0, 99), s.Data...)
	is(t, "SaveSnapshot", w.SaveSnapshot(h, s, false), api.OK)
	want = api.Saved{Hard: h, Snapshot: snapshot(2, 1), Entries: want.Entries[2:]}
	told(t, api.Saved{Hard: h, Snapshot: s, Entries: want.Entries}, want, "a snapshot that was handed in")
	spoil(&s)
	checkSpoilt(t, w, d, want, "SaveSnapshot")

	is(t, "Save", w.Save(h, entries(4, 5, 1)), api.OK)
	want.Entries = append(want.Entries, entries(4, 5, 1)...)
	checkSpoilt(t, w, d, want, "Save behind a snapshot")
	is(t, "Save", w.Save(h, entries(4, 4, 2)), api.OK)
	want.Entries = append(want.Entries[:1:1], entry(4, 2))
	checkSpoilt(t, w, d, want, "Save in the place of others")
}

// checkSpoilt spoils all that Saved and Open answer, and looks whether it is seen, in this wal and in others of the disk.
func checkSpoilt(t *testing.T, w *wal.Wal, d *disk.Disk, want api.Saved, what string) {
	t.Helper()
	other, told1, e := wal.Open(d)
	is(t, "Open", e, api.OK)
	saved := w.Saved()
	told(t, saved, want, what)
	told(t, told1, want, what)
	spoil(&saved)
	told(t, told1, want, what+", what Saved told spoilt")
	told(t, w.Saved(), want, what+", what Saved told spoilt")
	spoil(&told1)
	told(t, other.Saved(), want, what+", what Open told spoilt")
	told(t, w.Saved(), want, what+", what Open told spoilt")
	opens(t, d, want, what)
}

// TestListsApart: no two lists of one answer share memory: each can be lengthened without another's being changed.
func TestListsApart(t *testing.T) {
	w, want, _ := based(t)
	s := w.Saved()
	for i := range s.Entries {
		c := &s.Entries[i].Cmd
		_ = append(c.Conf.Voters, 77)
		_ = append(c.Conf.Learners, 77)
		_ = append(c.Plan.Stops, 77)
		_ = append(c.Plan.Places, api.Alloc{ID: 77})
		_ = append(c.Reports, api.Report{Alloc: 77})
		_ = append(c.Job.Groups, api.Group{Count: 77})
	}
	_ = append(s.Snapshot.Data, 77)
	_ = append(s.Snapshot.Conf.Voters, 77)
	_ = append(s.Snapshot.Conf.Learners, 77)
	told(t, s, want, "Saved")
}
