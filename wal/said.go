package wal

import (
	"bytes"
	"slices"

	"coxswain/api"
	"coxswain/codec"
)

// The kinds of frames.
const (
	hardKind     = 1
	entryKind    = 2
	snapshotKind = 3
	hardPlace    = 0
)

// said is what frames say. Its records are bytes, which are never written to: nobody else has their memory, and several said may share them.
type said struct {
	hard     api.Hard
	snapshot []byte   // nil: there is none
	base     int      // its Index
	entries  [][]byte // those of base + 1 and on
}

// read tells what the whole frames of some bytes say, and how many bytes these are.
func read(data []byte) (said, int, api.Errno) {
	s, whole := said{}, 0
frames:
	for {
		kind, place, body, used, e := codec.Unframe(data[whole:])
		switch {
		case e != api.OK:
			return said{}, 0, api.ErrCorrupt
		case used == 0:
			break frames
		case kind == hardKind && s.takeHard(place, body):
		case kind == entryKind && s.takeEntry(place, body):
		case kind == snapshotKind && s.takeSnapshot(place, body):
		default:
			return said{}, 0, api.ErrCorrupt
		}
		whole += used
	}
	return s, whole, api.OK
}

func (s *said) takeHard(place int, body []byte) bool {
	h, ok := getHard(body)
	if !ok || place != hardPlace {
		return false
	}
	s.hard = h
	return true
}

func (s *said) takeEntry(place int, body []byte) bool {
	x, ok := codec.GetEntry(body)
	if !ok || place != x.Index || !s.mayBegin(x.Index) {
		return false
	}
	s.entries = append(s.entries[:x.Index-s.base-1], body)
	return true
}

func (s *said) takeSnapshot(place int, body []byte) bool {
	x, ok := codec.GetSnapshot(body)
	if !ok || place != x.Index {
		return false
	}
	s.snapshot, s.base, s.entries = body, x.Index, nil
	return true
}

// mayBegin asks whether entries from an index on stand right behind what is there.
func (s *said) mayBegin(index int) bool {
	return index > s.base && index <= s.last()+1
}

func (s *said) last() int {
	return s.base + len(s.entries)
}

// bodies are the bytes of entries; false, if these may not be saved.
func (s *said) bodies(l []api.Entry) ([][]byte, bool) {
	var out [][]byte
	for i, x := range l {
		body, e := codec.PutEntry(x)
		if e != api.OK || x.Index != l[0].Index+i || !s.mayBegin(l[0].Index) {
			return nil, false
		}
		out = append(out, body)
	}
	return out, true
}

// with is the entries, others in the place of all from the first one's index on.
func (s *said) with(first int, others [][]byte) [][]byte {
	return slices.Concat(s.entries[:first-s.base-1], others)
}

// above is the entries above an index that is not below the snapshot's.
func (s *said) above(index int) [][]byte {
	return slices.Clone(s.entries[min(index, s.last())-s.base:])
}

// frames is the bytes that say it.
func (s *said) frames() []byte {
	out := frame(hardKind, hardPlace, putHard(s.hard))
	if s.snapshot != nil {
		out = append(out, frame(snapshotKind, s.base, s.snapshot)...)
	}
	for i, body := range s.entries {
		out = append(out, frame(entryKind, s.base+1+i, body)...)
	}
	return out
}

// frame is never refused: what codec writes is far below a frame's greatest body, and no Index that it writes is beyond a frame's places.
func frame(kind, place int, body []byte) []byte {
	out, _ := codec.Frame(kind, place, body)
	return out
}

// saved reads the records anew.
func (s *said) saved() api.Saved {
	out := api.Saved{Hard: s.hard}
	if s.snapshot != nil {
		out.Snapshot, _ = codec.GetSnapshot(s.snapshot)
	}
	for _, body := range s.entries {
		x, _ := codec.GetEntry(body)
		out.Entries = append(out.Entries, x)
	}
	return out
}

func isHard(h api.Hard) bool {
	return isNumber(h.Term) && isNumber(h.Vote)
}

func isNumber(n int) bool {
	return n >= 0 && n <= api.MaxNumber
}

// noMore is how the bytes of a snapshot end that has neither servers nor Data. What stands ahead of them is two numbers, just as of a Hard, for which codec has no call.
const noMore = "\x00\x00\x00"

func putHard(h api.Hard) []byte {
	body, _ := codec.PutSnapshot(api.Snapshot{Index: h.Term, Term: h.Vote})
	return bytes.TrimSuffix(body, []byte(noMore))
}

func getHard(body []byte) (api.Hard, bool) {
	x, ok := codec.GetSnapshot(append(bytes.Clone(body), noMore...))
	h := api.Hard{Term: x.Index, Vote: x.Term}
	if !ok || !isHard(h) || len(x.Conf.Voters)+len(x.Conf.Learners)+len(x.Data) > 0 {
		return api.Hard{}, false
	}
	return h, true
}
