package raft_test

import (
	"crypto/sha256"
	"fmt"
	"math/rand"
	"strings"
	"testing"

	"coxswain/api"
	"coxswain/conf"
	"coxswain/raft"
)

// group is servers whose messages are lost, doubled and out of their order, and that fall and are opened anew with what they saved.
type group struct {
	t       *testing.T
	dice    *rand.Rand
	first   api.Conf
	up      [api.MaxServers + 1]*raft.Raft // nil: it has fallen
	saved   [api.MaxServers + 1]api.Saved
	was     [api.MaxServers + 1]raft.Status // behind its last call
	applied [api.MaxServers + 1]int
	alone   [api.MaxServers + 1]bool // nothing comes to it, and nothing from it
	net     []api.Msg
	past    []api.Msg      // all that was ever sent
	leaders map[int]int    // by term
	votes   map[[2]int]int // by server and term
	all     []api.Entry    // what anybody told as committed
	reads   map[int]int    // by number: what was told as committed when it was asked
	asked   int
	mark    int
	ticks   int // of a thousand turns
	bursts  int // likewise
	// One of two voters took itself out: if the other one lacks that entry neither can lead any more, for the one does not stand, and the other one's log is older. So the words have it; peace is not asked for then.
	stuck bool
	seen  map[string]int
}

func newGroup(t *testing.T, seed int64, first api.Conf, seen map[string]int) *group {
	g := &group{t: t, dice: rand.New(rand.NewSource(seed)), first: first, leaders: map[int]int{}, votes: map[[2]int]int{}, reads: map[int]int{}, seen: seen}
	for s := 1; s <= api.MaxServers; s++ {
		g.open(s)
	}
	return g
}

func (g *group) chance(percent int) bool { return g.dice.Intn(100) < percent }

func (g *group) anyone() int { return 1 + g.dice.Intn(api.MaxServers) }

// open opens a server with what it saved: its term and its vote are what they were, and so is its log.
func (g *group) open(s int) {
	g.up[s] = opened(g.t, s, g.first, g.saved[s])
	base := g.saved[s].Snapshot.Index
	g.applied[s] = base
	st := g.up[s].Status()
	if st.Hard != g.saved[s].Hard || st.Commit != base || st.Base != base || st.Last != base+len(g.saved[s].Entries) {
		g.t.Fatalf("server %d, opened anew: %+v", s, st)
	}
	g.was[s] = st
}

// do does what a call tells, in its order; a server may fall ahead of saving, or behind it.
func (g *group) do(s int, o raft.Out) {
	g.t.Helper()
	if g.chance(1) && g.chance(20) {
		g.fall(s)
		return
	}
	g.save(s, o)
	if g.chance(1) && g.chance(20) {
		g.fall(s)
		return
	}
	g.net = append(g.net, o.Msgs...)
	g.past = append(g.past, o.Msgs...)
	if o.Snapshot != nil && o.Snapshot.Index > g.applied[s] {
		g.restore(s, *o.Snapshot)
	}
	for _, x := range o.Commits {
		g.apply(s, x)
	}
	for _, x := range o.Reads {
		g.seen["reads"]++
		if x.Index < g.reads[x.Ctx] {
			g.t.Fatalf("server %d tells a read %d, though %d was told as committed when it was asked", s, x.Index, g.reads[x.Ctx])
		}
	}
	g.hold(s)
}

func (g *group) fall(s int) {
	g.seen["falls"]++
	g.up[s] = nil
}

// save does it as the chapter's word 'Out' says.
func (g *group) save(s int, o raft.Out) {
	g.t.Helper()
	d, st := &g.saved[s], g.up[s].Status()
	if !o.Save {
		if o.Hard != (api.Hard{}) || len(o.Entries) > 0 || o.Snapshot != nil {
			g.t.Fatalf("server %d is not to save, but %s", s, short(o))
		}
	} else {
		hard := o.Hard != d.Hard
		d.Hard = o.Hard
		if o.Snapshot != nil {
			var stay []api.Entry
			for _, x := range d.Entries {
				if x.Index > o.Snapshot.Index && st.Last > o.Snapshot.Index {
					stay = append(stay, x)
				}
			}
			d.Snapshot, d.Entries = *o.Snapshot, stay
		}
		if len(o.Entries) > 0 {
			d.Entries = append(d.Entries[:o.Entries[0].Index-d.Snapshot.Index-1:o.Entries[0].Index-d.Snapshot.Index-1], o.Entries...)
		}
		if !hard && len(o.Entries) == 0 && o.Snapshot == nil {
			g.t.Fatalf("server %d is to save, but nothing is another: %s", s, short(o))
		}
	}
	if st.Hard != d.Hard || st.Base != d.Snapshot.Index || st.Last != d.Snapshot.Index+len(d.Entries) {
		g.t.Fatalf("server %d has %+v, but saved %v, %d and %d entries", s, st, d.Hard, d.Snapshot.Index, len(d.Entries))
	}
	if len(o.Entries) > 0 || o.Snapshot != nil {
		g.alike(s)
	}
}

// apply holds P9.11.
func (g *group) apply(s int, x api.Entry) {
	g.t.Helper()
	if x.Index != g.applied[s]+1 {
		g.t.Fatalf("server %d tells %d as committed behind %d", s, x.Index, g.applied[s])
	}
	g.applied[s] = x.Index
	if x.Index == len(g.all)+1 {
		g.all = append(g.all, x)
		g.seen["commits"]++
		if x.Cmd.Op == api.CmdConf {
			g.seen["changes"]++
		}
	}
	if !alike(g.all[x.Index-1], x) {
		g.t.Fatalf("server %d tells another entry %d as committed: %s, %s", s, x.Index, shortList(g.all[x.Index-1:x.Index]), shortList([]api.Entry{x}))
	}
}

// restore holds P9.11 of what came by a snapshot.
func (g *group) restore(s int, x api.Snapshot) {
	g.t.Helper()
	if string(x.Data) != string(g.store(x.Index)) || x.Term != g.all[x.Index-1].Term || !alike(x.Conf, g.serversAt(x.Index)) {
		g.t.Fatalf("server %d has a snapshot of %d that is not what was committed", s, x.Index)
	}
	g.applied[s] = x.Index
	g.seen["snapshots"]++
}

// store is bytes that tell all that was committed up to an index; some are longer than a piece.
func (g *group) store(index int) []byte {
	sum := sha256.Sum256([]byte(shortList(g.all[:index])))
	return []byte(strings.Repeat(fmt.Sprintf("%d %x ", index, sum), 1+index%9))
}

func (g *group) serversAt(index int) api.Conf {
	c := g.first
	for _, x := range g.all[:index] {
		if x.Cmd.Op == api.CmdConf {
			c = x.Cmd.Conf
		}
	}
	return c
}

// alike holds P9.10 of one log and all others, also of those that have fallen.
func (g *group) alike(s int) {
	g.t.Helper()
	a := g.saved[s]
	for o := 1; o <= api.MaxServers; o++ {
		b := g.saved[o]
		if o == s {
			continue
		}
		from := max(a.Snapshot.Index, b.Snapshot.Index) + 1
		upTo := min(a.Snapshot.Index+len(a.Entries), b.Snapshot.Index+len(b.Entries))
		met := false
		for i := upTo; i >= from; i-- {
			x, y := a.Entries[i-a.Snapshot.Index-1], b.Entries[i-b.Snapshot.Index-1]
			met = met || x.Term == y.Term
			if met && !alike(x, y) {
				g.t.Fatalf("the servers %d and %d have the same term at an entry, but another entry %d", s, o, i)
			}
		}
	}
}

// hold holds P9.9 and P9.12.
func (g *group) hold(s int) {
	g.t.Helper()
	st, was := g.up[s].Status(), g.was[s]
	if st.Role == raft.Leader {
		if l, ok := g.leaders[st.Hard.Term]; ok && l != s {
			g.t.Fatalf("the servers %d and %d lead in the term %d", l, s, st.Hard.Term)
		}
		if _, ok := g.leaders[st.Hard.Term]; !ok {
			g.seen["leaders"]++
		}
		g.leaders[st.Hard.Term] = s
	}
	if st.Hard.Term < was.Hard.Term || st.Commit < was.Commit {
		g.t.Fatalf("server %d falls back: %+v, %+v", s, was, st)
	}
	if v := st.Hard.Vote; v != 0 {
		key := [2]int{s, st.Hard.Term}
		if other, ok := g.votes[key]; ok && other != v {
			g.t.Fatalf("server %d votes for %d and %d in the term %d", s, other, v, st.Hard.Term)
		}
		g.votes[key] = v
	}
	if st.Commit != g.applied[s] {
		g.t.Fatalf("server %d has committed %d, but told %d", s, st.Commit, g.applied[s])
	}
	g.was[s] = st
}

// turn is one thing that happens.
func (g *group) turn() {
	s := g.anyone()
	switch n := g.dice.Intn(1000); {
	case n < g.ticks:
		g.tick(s)
	case n < g.ticks+g.bursts:
		// Its clock goes so fast that it stands.
		for range 2 * api.TickElect {
			g.tick(s)
		}
	case n < 800:
		g.deliver(g.dice.Intn(len(g.net)+1), g.chance(5), g.chance(5))
	case n < 920:
		g.ask(s)
	case n < 960:
		g.compact(s)
	case n < 966:
		// Mostly who leads is left alone, so that another one must.
		if g.chance(70) {
			s = g.leading(s)
		}
		g.alone[s] = true
	case n < 973:
		g.alone = [api.MaxServers + 1]bool{}
	case n < 976:
		if g.up[s] != nil {
			g.fall(s)
		}
	case n < 990:
		if g.up[s] == nil {
			g.open(s)
		}
	}
	if len(g.net) > 200 {
		g.net = g.net[100:]
	}
	if len(g.past) > 0 && g.chance(3) {
		// Something that was sent long ago comes, perhaps once more.
		g.net = append(g.net, g.past[g.dice.Intn(len(g.past))])
		g.deliver(len(g.net)-1, false, false)
	}
}

func (g *group) tick(s int) {
	g.t.Helper()
	if g.up[s] != nil {
		g.do(s, g.up[s].Tick(g.dice.Int()))
	}
}

// deliver lets a packet come, or be lost; it may stay, to come again.
func (g *group) deliver(n int, lost, stays bool) {
	g.t.Helper()
	if n >= len(g.net) {
		return
	}
	m := g.net[n]
	if !stays {
		g.net = append(g.net[:n:n], g.net[n+1:]...)
	}
	if r := g.up[m.To]; r != nil && !lost && !g.alone[m.To] && !g.alone[m.From] {
		g.do(m.To, r.Step(m))
	}
}

// leading is one that leads, or this one, if nobody does.
func (g *group) leading(s int) int {
	for _, o := range g.dice.Perm(api.MaxServers) {
		if g.up[o+1] != nil && g.was[o+1].Role == raft.Leader {
			return o + 1
		}
	}
	return s
}

// ask lets a server be asked for something, mostly the one that leads.
func (g *group) ask(s int) {
	g.t.Helper()
	if g.chance(80) {
		s = g.leading(s)
	}
	r := g.up[s]
	if r == nil {
		return
	}
	switch n := g.dice.Intn(10); {
	case n < 2:
		g.asked++
		g.reads[g.asked] = len(g.all)
		_, o := r.Read(g.asked)
		g.do(s, o)
	case n < 4:
		g.propose(s, toConf(g.change(r.Status().Conf)))
	default:
		g.mark++
		g.propose(s, api.Cmd{Op: api.CmdSubmit, Req: g.mark, Job: api.Job{Groups: []api.Group{{Count: g.mark}}}})
	}
}

func (g *group) propose(s int, c api.Cmd) {
	g.t.Helper()
	was := g.up[s].Status().Conf
	_, e, o := g.up[s].Propose(c)
	if e == api.OK && c.Op == api.CmdConf && len(was.Voters) == 2 && !conf.Voter(c.Conf, s) {
		g.stuck = true
	}
	g.do(s, o)
}

// change is servers that are one step away, mostly towards more of them; now and then ones that are further, which are to be refused.
func (g *group) change(c api.Conf) api.Conf {
	s := g.anyone()
	if g.chance(20) {
		return []api.Conf{voters(1, 2, 3), voters(4, 5), voters(s), voters(1, 2, 3, 4, 5)}[g.dice.Intn(4)]
	}
	if d, e := conf.Add(c, s); e == api.OK {
		return d
	}
	if d, e := conf.Promote(c, s); e == api.OK {
		return d
	}
	if d, e := conf.Remove(c, s); e == api.OK && g.chance(40) {
		return d
	}
	return c
}

func (g *group) compact(s int) {
	g.t.Helper()
	if g.up[s] == nil || g.applied[s] == 0 {
		return
	}
	index := 1 + g.dice.Intn(g.applied[s])
	e, o := g.up[s].Compact(index, g.store(index))
	if e != api.OK {
		g.t.Fatalf("Compact(%d): %d", index, e)
	}
	g.do(s, o)
}

// peace lets all be up, and all packets come: in the end all members have all that was committed, and an entry more.
func (g *group) peace() {
	g.t.Helper()
	if g.stuck {
		return
	}
	g.seen["peace"]++
	g.alone = [api.MaxServers + 1]bool{}
	g.mark++
	mark := g.mark
	for range 400 {
		for s := 1; s <= api.MaxServers; s++ {
			if g.up[s] == nil {
				g.open(s)
			}
			g.tick(s)
		}
		for range 400 {
			g.deliver(0, false, false)
		}
		if len(g.all) == 0 || g.all[len(g.all)-1].Cmd.Req != mark {
			for s := 1; s <= api.MaxServers; s++ {
				if g.up[s] != nil && g.was[s].Role == raft.Leader {
					g.propose(s, api.Cmd{Op: api.CmdSubmit, Req: mark})
				}
			}
		} else if g.done() {
			return
		}
	}
	g.t.Fatalf("all is left in peace, but there are %d entries committed, and the servers have come to %v", len(g.all), g.applied)
}

func (g *group) done() bool {
	for _, s := range conf.Members(g.serversAt(len(g.all))) {
		if g.up[s] == nil || g.applied[s] != len(g.all) {
			return false
		}
	}
	return true
}

// P9.9 to P9.12, of groups to which all may happen; and in peace they come to an end.
func TestGroups(t *testing.T) {
	seen := map[string]int{}
	for seed := range int64(96) {
		first := []api.Conf{voters(1, 2, 3), voters(1, 2, 3, 4, 5), voters(1), servers([]int{1, 2}, []int{3, 4})}[seed%4]
		g := newGroup(t, seed, first, seen)
		// With many ticks to few packets servers stand against each other.
		g.ticks = []int{200, 500, 300}[seed%3]
		g.bursts = []int{0, 10, 30, 60}[seed/4%4]
		for range 3000 {
			g.turn()
		}
		g.peace()
	}
	for what, least := range map[string]int{"leaders": 200, "commits": 2000, "changes": 300, "snapshots": 100, "reads": 300, "falls": 300, "peace": 30} {
		if seen[what] < least {
			t.Errorf("of %s there were only %d", what, seen[what])
		}
	}
}
