package wal_test

import (
	"bytes"
	"fmt"
	"math/rand"
	"testing"

	"coxswain/api"
	"coxswain/codec"
	"coxswain/disk"
	"coxswain/wal"
)

// model is a wal as the chapter's words tell it, on a disk of which only the operations that are left and the file's length are known.
type model struct {
	saved   api.Saved
	size    int
	left    int // operations till the disk is cut
	refused bool
	maybe   []api.Saved // what may be there behind a crash
}

const plenty = 1 << 30

func (m *model) last() int {
	if n := len(m.saved.Entries); n > 0 {
		return m.saved.Entries[n-1].Index
	}
	return m.saved.Snapshot.Index
}

// with is what is saved when a Hard and entries are, that may be none.
func (m *model) with(h api.Hard, l []api.Entry) api.Saved {
	out := api.Saved{Hard: h, Snapshot: m.saved.Snapshot}
	for _, x := range m.saved.Entries {
		if len(l) == 0 || x.Index < l[0].Index {
			out.Entries = append(out.Entries, x)
		}
	}
	out.Entries = append(out.Entries, l...)
	return out
}

func frames(s api.Saved) []byte {
	out := hardFrame(s.Hard)
	if s.Snapshot.Index > 0 {
		out = append(out, snapshotFrame(s.Snapshot)...)
	}
	return append(out, entryFrames(s.Entries)...)
}

// takes counts operations, and tells whether they can all be done.
func (m *model) takes(operations int) bool {
	ok := m.left >= operations
	m.left = max(0, m.left-operations)
	return ok
}

func (m *model) save(h api.Hard, l []api.Entry) api.Errno {
	if m.refused {
		return api.ErrDisk
	}
	for i, x := range l {
		if x.Index != l[0].Index+i || l[0].Index <= m.saved.Snapshot.Index || l[0].Index > m.last()+1 {
			return api.ErrArg
		}
	}
	if h.Term < 0 || h.Vote < 0 {
		return api.ErrArg
	}
	next := m.with(h, l)
	more := len(hardFrame(h)) + len(entryFrames(l))
	if m.size+more > 1<<19 {
		return m.anew(next)
	}
	m.maybe = []api.Saved{m.saved}
	for i := range len(l) + 1 {
		m.maybe = append(m.maybe, m.with(h, l[:i]))
	}
	if !m.takes(2) {
		m.refused = true
		return api.ErrDisk
	}
	m.saved, m.size = next, m.size+more
	return api.OK
}

func (m *model) saveSnapshot(h api.Hard, s api.Snapshot, all bool) api.Errno {
	if m.refused {
		return api.ErrDisk
	}
	if h.Term < 0 || h.Vote < 0 || s.Index < 1 || s.Index < m.saved.Snapshot.Index {
		return api.ErrArg
	}
	next := api.Saved{Hard: h, Snapshot: s}
	for _, x := range m.saved.Entries {
		if x.Index > s.Index && !all {
			next.Entries = append(next.Entries, x)
		}
	}
	return m.anew(next)
}

func (m *model) anew(next api.Saved) api.Errno {
	m.maybe = []api.Saved{m.saved, next}
	if !m.takes(4) {
		m.refused = true
		return api.ErrDisk
	}
	m.saved, m.size = next, len(frames(next))
	return api.OK
}

// some is random entries, most of which may be saved; now and then wide ones, so that the file grows long.
func (m *model) some(r *rand.Rand) []api.Entry {
	first := m.saved.Snapshot.Index + r.Intn(len(m.saved.Entries)+3)
	if r.Intn(2) == 0 {
		first = m.last() + 1
	}
	l := entries(first, first+r.Intn(4)-1, 1+r.Intn(9))
	for i := range l {
		if r.Intn(3) == 0 {
			l[i] = wide(l[i].Index)
		}
		if r.Intn(60) == 0 {
			l[i].Index += 1 + r.Intn(2)
		}
	}
	return l
}

func someHard(r *rand.Rand) api.Hard {
	if r.Intn(20) == 0 {
		return api.Hard{Term: -r.Intn(2), Vote: -r.Intn(2)}
	}
	return api.Hard{Term: r.Intn(1000), Vote: r.Intn(6)}
}

// step does one random thing to both, and holds what they answer against each other.
func (m *model) step(t *testing.T, r *rand.Rand, w *wal.Wal, d *disk.Disk) *wal.Wal {
	t.Helper()
	h := someHard(r)
	switch n := r.Intn(40); {
	case n < 24:
		l := m.some(r)
		got, want := w.Save(h, l), m.save(h, l)
		is(t, fmt.Sprintf("Save(%v, %s)", h, short(api.Saved{Entries: l})), got, want)
	case n < 27:
		s := snapshot(m.saved.Snapshot.Index+r.Intn(len(m.saved.Entries)+3)-1, 1+r.Intn(9))
		all := r.Intn(3) == 0
		got, want := w.SaveSnapshot(h, s, all), m.saveSnapshot(h, s, all)
		is(t, fmt.Sprintf("SaveSnapshot(%v, %d, %v)", h, s.Index, all), got, want)
	case n < 30:
		if m.left == plenty {
			m.left = r.Intn(9)
			is(t, "Cut", d.Cut(m.left), api.OK)
		}
	case n < 34 || m.refused:
		d.Crash(r.Int())
		return m.open(t, d)
	default:
		told(t, w.Saved(), m.saved, "Saved")
	}
	return w
}

// open is what comes behind a crash: what was saved, or, behind a call that was refused, one of the things that may be there.
func (m *model) open(t *testing.T, d *disk.Disk) *wal.Wal {
	t.Helper()
	w, s, e := wal.Open(d)
	is(t, "Open", e, api.OK)
	ok := alike(s, m.saved)
	for _, x := range m.maybe {
		ok = ok || m.refused && alike(s, x)
	}
	if !ok {
		t.Fatalf("Open tells %s, not %s", short(s), short(m.saved))
	}
	*m = model{saved: s, size: len(file(d, "log")), left: plenty}
	return w
}

// TestModel: P4.1 to P4.5: random calls, cuts and crashes.
func TestModel(t *testing.T) {
	for seed := range 60 {
		r := rand.New(rand.NewSource(int64(seed)))
		d := disk.New()
		m := &model{left: plenty}
		w := m.open(t, d)
		for range 100 {
			w = m.step(t, r, w, d)
			told(t, w.Saved(), m.saved, "Saved")
			if !m.refused && m.size > 0 && len(file(d, "log")) != m.size {
				t.Fatalf("seed %d: a file of %d bytes, not %d", seed, len(file(d, "log")), m.size)
			}
		}
	}
}

// TestModelLong: the same for long files: wide entries, and few snapshots.
func TestModelLong(t *testing.T) {
	anew := 0
	for seed := range 6 {
		r := rand.New(rand.NewSource(int64(seed)))
		d := disk.New()
		m := &model{left: plenty}
		w := m.open(t, d)
		for range 60 {
			h := api.Hard{Term: r.Intn(1000)}
			first := 1 + r.Intn(min(9, m.last()+1))
			l := wides(first, first+r.Intn(9))
			if r.Intn(6) == 0 {
				m.left = r.Intn(5)
				is(t, "Cut", d.Cut(m.left), api.OK)
			}
			ahead := m.size
			is(t, "Save", w.Save(h, l), m.save(h, l))
			if m.size < ahead {
				anew++
			}
			told(t, w.Saved(), m.saved, "Saved")
			if m.refused {
				d.Crash(r.Int())
				w = m.open(t, d)
			}
		}
		if got := file(d, "log"); len(got) > 1<<19 || !bytes.HasPrefix(got, []byte{0, 0, 0}) {
			t.Fatalf("a file of %d bytes", len(got))
		}
	}
	if anew == 0 {
		t.Fatal("no file was written anew")
	}
}

// wordSays is what P4.1's words say of one frame more behind what was said; false: that it is corrupt.
func wordSays(s api.Saved, kind, place int, body []byte) (api.Saved, bool) {
	m := model{saved: s}
	switch kind {
	case 1:
		for term := range 4 {
			for vote := range 4 {
				if bytes.Equal(body, pair(term, vote)) {
					s.Hard = api.Hard{Term: term, Vote: vote}
					return s, place == 0
				}
			}
		}
	case 2:
		x, ok := codec.GetEntry(body)
		if ok && x.Index == place && x.Index >= 1 && x.Index > s.Snapshot.Index && x.Index <= m.last()+1 {
			return m.with(s.Hard, []api.Entry{x}), true
		}
	case 3:
		x, ok := codec.GetSnapshot(body)
		if ok && x.Index == place {
			return api.Saved{Hard: s.Hard, Snapshot: x}, true
		}
	}
	return s, false
}

// someFrame is one that may often stand behind what was said, if its numbers are small.
func someFrame(r *rand.Rand, s api.Saved) (kind, place int, body []byte) {
	m := model{saved: s}
	index := m.saved.Snapshot.Index + r.Intn(len(m.saved.Entries)+2) + 1
	if r.Intn(3) == 0 {
		index = r.Intn(8)
	}
	kind, place, body = 2, index, entryBody(entry(index, 1+r.Intn(3)))
	switch r.Intn(6) {
	case 0:
		kind, place, body = 3, index, snapshotBody(snapshot(index, 1+r.Intn(3)))
	case 1, 2:
		kind, place, body = 1, 0, pair(r.Intn(4), r.Intn(4))
	}
	switch r.Intn(60) {
	case 0:
		kind = r.Intn(6)
	case 1:
		place += r.Intn(2)
	case 2:
		body = append(body, 0)
	case 3:
		body = body[:r.Intn(len(body))]
	}
	return kind, place, body
}

// TestOpenModel: P4.1: random frames, one behind the other, and now and then a torn end.
func TestOpenModel(t *testing.T) {
	r := rand.New(rand.NewSource(1))
	good, bad := 0, 0
	for range 3000 {
		var data []byte
		var said api.Saved
		ok := true
		for range r.Intn(12) {
			kind, place, body := someFrame(r, said)
			data = append(data, frame(kind, place, body)...)
			if ok {
				said, ok = wordSays(said, kind, place, body)
			}
		}
		data = append(data, hardFrame(api.Hard{})[:r.Intn(12)]...)
		if d := diskWith(t, data); ok {
			good++
			opens(t, d, said, fmt.Sprintf("%x", data))
		} else {
			bad++
			refuses(t, d, api.ErrCorrupt, fmt.Sprintf("%x", data))
		}
	}
	if good < 300 || bad < 300 {
		t.Fatalf("%d that can be opened, %d that can't", good, bad)
	}
}
