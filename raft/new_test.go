package raft_test

import (
	"testing"

	"coxswain/api"
	"coxswain/raft"
)

// full is something saved, of each kind, that New takes.
func full() api.Saved {
	return api.Saved{
		Hard:     api.Hard{Term: 4, Vote: 3},
		Snapshot: api.Snapshot{Index: 6, Term: 2, Conf: servers([]int{2, 3}, []int{1}), Data: []byte("store")},
		Entries:  entries(7, 2, 3, 4),
	}
}

// P9.1: what is saved is there; it follows, knows no leader, and what is committed is the Snapshot's Index.
func TestNew(t *testing.T) {
	wantStatus(t, opened(t, 1, voters(1, 2), full()), raft.Status{Hard: api.Hard{Term: 4, Vote: 3}, Commit: 6, Last: 9, Base: 6, Conf: servers([]int{2, 3}, []int{1})})
	s := full()
	s.Entries = nil
	wantStatus(t, opened(t, 5, voters(1, 2), s), raft.Status{Hard: api.Hard{Term: 4, Vote: 3}, Commit: 6, Last: 6, Base: 6, Conf: servers([]int{2, 3}, []int{1})})
	s = api.Saved{Hard: api.Hard{Term: 9}, Entries: entries(1, 1, 1, 9)}
	wantStatus(t, opened(t, 3, servers([]int{1}, []int{2}), s), raft.Status{Hard: api.Hard{Term: 9}, Last: 3, Conf: servers([]int{1}, []int{2})})
	wantStatus(t, fresh(t, 4, voters(4)), raft.Status{Conf: voters(4)})
}

// P9.1: of each number and list the least and the greatest that may be, and what lies beyond.
func TestNewTakesWhatMayBe(t *testing.T) {
	for id := 1; id <= api.MaxServers; id++ {
		opened(t, id, voters(1), full())
	}
	for _, c := range []api.Conf{voters(1), voters(5), voters(1, 2, 3, 4, 5), servers([]int{2}, []int{1, 3, 4, 5})} {
		opened(t, 1, c, full())
	}
	takes(t, "the greatest hard state", func(s *api.Saved) { s.Hard = api.Hard{Term: most, Vote: most} })
	takes(t, "no vote", func(s *api.Saved) { s.Hard.Vote = 0 })
	takes(t, "a term that is the last entry's", func(s *api.Saved) { s.Hard.Term = 4 })
	takes(t, "a term that is the snapshot's", func(s *api.Saved) { s.Hard.Term, s.Entries = 2, nil })
	takes(t, "one byte", func(s *api.Saved) { s.Snapshot.Data = bytesOf(1) })
	takes(t, "2^20 bytes", func(s *api.Saved) { s.Snapshot.Data = bytesOf(maxData) })
	takes(t, "the greatest snapshot", func(s *api.Saved) {
		s.Hard.Term, s.Snapshot.Index, s.Snapshot.Term, s.Entries = most, most, most, nil
	})
	takes(t, "the greatest entry", func(s *api.Saved) {
		s.Hard.Term, s.Snapshot.Index, s.Entries = most, most-1, entries(most, most)
	})
	takes(t, "the least snapshot", func(s *api.Saved) { s.Snapshot.Index, s.Snapshot.Term, s.Entries = 1, 1, nil })
	takes(t, "nothing", func(s *api.Saved) { *s = api.Saved{} })
	takes(t, "empty lists", func(s *api.Saved) { *s = api.Saved{Entries: []api.Entry{}} })
}

// P9.1: without an Index above 0 there is no snapshot, whatever its servers and its Data are.
func TestNewWithoutASnapshot(t *testing.T) {
	s := api.Saved{Snapshot: api.Snapshot{Conf: servers([]int{9, 2}, []int{2}), Data: bytesOf(maxData + 1)}}
	r := opened(t, 1, voters(1), s)
	wantStatus(t, r, raft.Status{Conf: voters(1)})
	leads(t, r)
	wantStatus(t, r, raft.Status{Role: raft.Leader, Leader: 1, Hard: api.Hard{Term: 1, Vote: 1}, Commit: 1, Last: 1, Conf: voters(1)})
}

// P9.1: each of the things that are refused.
func TestNewRefuses(t *testing.T) {
	for _, id := range append(farNumbers(), 0, 6) {
		if raft.New(id, voters(1), api.Saved{}) != nil {
			t.Errorf("New takes the server %d", id)
		}
	}
	wrong := []api.Conf{{}, servers(nil, []int{1}), voters(0), voters(6), voters(1, 1), voters(2, 1), servers([]int{1}, []int{1}), servers([]int{1}, []int{3, 2}), servers([]int{1}, []int{6})}
	for _, c := range wrong {
		if raft.New(1, c, api.Saved{}) != nil {
			t.Errorf("New takes the servers %v", c)
		}
		refuses(t, "a snapshot's servers", func(s *api.Saved) { s.Snapshot.Conf = c })
	}
	for _, far := range farNumbers() {
		refuses(t, "a term", func(s *api.Saved) { s.Hard.Term = far })
		refuses(t, "a term without entries", func(s *api.Saved) { *s = api.Saved{Hard: api.Hard{Term: far}} })
		refuses(t, "a vote", func(s *api.Saved) { s.Hard.Vote = far })
		refuses(t, "a snapshot's index", func(s *api.Saved) { s.Snapshot.Index, s.Entries = far, nil })
		refuses(t, "a snapshot's term", func(s *api.Saved) { s.Snapshot.Term, s.Entries = far, nil })
		refuses(t, "an entry's index", func(s *api.Saved) { s.Entries[0].Index = far })
		refuses(t, "an entry's term", func(s *api.Saved) { s.Entries[2].Term = far })
	}
	refuses(t, "a snapshot's term without its index", func(s *api.Saved) { s.Snapshot.Index, s.Entries = 0, nil })
	refuses(t, "a snapshot's index without its term", func(s *api.Saved) { s.Snapshot.Term, s.Entries = 0, nil })
	refuses(t, "no byte", func(s *api.Saved) { s.Snapshot.Data = nil })
	refuses(t, "no byte in a list", func(s *api.Saved) { s.Snapshot.Data = []byte{} })
	refuses(t, "a byte more than 2^20", func(s *api.Saved) { s.Snapshot.Data = bytesOf(maxData + 1) })
	refuses(t, "entries that begin too late", func(s *api.Saved) { s.Entries = s.Entries[1:] })
	refuses(t, "entries that begin too early", func(s *api.Saved) { s.Entries = entries(6, 2, 3, 4) })
	refuses(t, "entries that leave one out", func(s *api.Saved) { s.Entries[2].Index = 10 })
	refuses(t, "terms that fall", func(s *api.Saved) { s.Entries = entries(7, 3, 2, 4) })
	refuses(t, "a term below the snapshot's", func(s *api.Saved) { s.Entries = entries(7, 1, 3, 4) })
	refuses(t, "a last term above the hard one", func(s *api.Saved) { s.Hard.Term = 3 })
	refuses(t, "a snapshot's term above the hard one", func(s *api.Saved) { s.Hard.Term, s.Entries = 1, nil })
	refuses(t, "an entry beyond the greatest", func(s *api.Saved) { s.Snapshot.Index, s.Entries = most, entries(most+1, 2) })
}

func takes(t *testing.T, what string, change func(s *api.Saved)) {
	t.Helper()
	s := full()
	change(&s)
	if raft.New(1, voters(1, 2, 3), s) == nil {
		t.Errorf("New does not take %s", what)
	}
}

func refuses(t *testing.T, what string, change func(s *api.Saved)) {
	t.Helper()
	s := full()
	change(&s)
	if raft.New(1, voters(1, 2, 3), s) != nil {
		t.Errorf("New takes %s", what)
	}
}

// The word 'its servers': those of the last CmdConf in the log, be it committed or not; else the snapshot's; else the first ones.
func TestServers(t *testing.T) {
	first, second, third := voters(1, 2, 3), voters(1, 2), servers([]int{1, 2}, []int{5})
	conf := func(s api.Saved, wanted api.Conf) {
		t.Helper()
		if got := opened(t, 1, first, s).Status().Conf; !alike(got, wanted) {
			t.Errorf("its servers: %v; not %v", got, wanted)
		}
	}
	conf(api.Saved{}, first)
	list := append(entries(1, 1, 1), confEntry(3, 1, second), entry(4, 1))
	conf(api.Saved{Hard: api.Hard{Term: 1}, Entries: list[:2]}, first)
	conf(api.Saved{Hard: api.Hard{Term: 1}, Entries: list[:3]}, second)
	conf(api.Saved{Hard: api.Hard{Term: 1}, Entries: list}, second)
	list = append(list, confEntry(5, 1, third))
	conf(api.Saved{Hard: api.Hard{Term: 1}, Entries: list}, third)
	snap := api.Snapshot{Index: 2, Term: 1, Conf: voters(4), Data: []byte("s")}
	conf(api.Saved{Hard: api.Hard{Term: 1}, Snapshot: snap}, voters(4))
	conf(api.Saved{Hard: api.Hard{Term: 1}, Snapshot: snap, Entries: entries(3, 1)}, voters(4))
	conf(api.Saved{Hard: api.Hard{Term: 1}, Snapshot: snap, Entries: list[2:]}, third)
	conf(api.Saved{Hard: api.Hard{Term: 1}, Snapshot: snap, Entries: list[2:4]}, second)
}

// The word 'its servers': they change back when the entry loses its place, and stay when what is behind it does.
func TestServersOfAnEntryThatLosesItsPlace(t *testing.T) {
	first, second, third := voters(1, 2, 3), voters(1, 2), voters(1, 2, 4)
	r := fresh(t, 1, first)
	list := []api.Entry{entry(1, 1), confEntry(2, 1, second), entry(3, 1), confEntry(4, 1, third)}
	r.Step(api.Msg{Kind: api.MsgAppend, From: 2, To: 1, Term: 1, Entries: list})
	asked := func(index, logTerm, term int, wanted api.Conf, l ...api.Entry) {
		t.Helper()
		r.Step(api.Msg{Kind: api.MsgAppend, From: 2, To: 1, Term: term, Index: index, LogTerm: logTerm, Entries: l})
		if got := r.Status().Conf; !alike(got, wanted) {
			t.Fatalf("its servers behind an append at %d: %v; not %v", index, got, wanted)
		}
	}
	asked(4, 1, 2, third)
	asked(3, 1, 2, second, entry(4, 2))
	asked(1, 1, 3, first, entry(2, 3))
	asked(2, 3, 3, third, confEntry(3, 3, third))
	asked(2, 3, 4, second, confEntry(3, 4, second))
	asked(0, 0, 5, first, entry(1, 5))
}
