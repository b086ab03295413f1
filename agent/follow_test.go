package agent_test

import (
	"math/rand"
	"testing"

	"coxswain/api"
	"coxswain/disk"
)

// watch is a machine as it is seen from outside: what it sent, what came to it, when it ticked; no word of the chapter but what is promised behind all.
type watch struct {
	machine
	dice  *rand.Rand
	clock int
	under int         // its epoch, as it was seen last
	since int         // at which tick that was seen first
	beats map[int]int // of the beats of this epoch, at which tick each was sent
	takes map[int]int // of those of them that were answered with OK, likewise
	seen  []api.Msg   // what it sent last
	boots map[int]int // with how many registrations each boot number was used
	epoch int         // the last one that was given out
	count int         // what was seen to run
}

// newWatch watches a machine that starts; the numbers that were used on its disk stay.
func newWatch(t *testing.T, dice *rand.Rand, d *disk.Disk, old *watch) *watch {
	t.Helper()
	w := &watch{machine: starts(t, 2, 3, d), dice: dice, boots: map[int]int{}}
	if old != nil {
		w.boots, w.epoch, w.count = old.boots, old.epoch, old.count
		w.seen = old.seen // what was sent ahead of its fall may be answered yet
	}
	return w
}

// looks holds P17.5: what runs, runs under its epoch, and ahead of the end of a lease: of its registration's, or of a beat's that was answered; and it is as it was told, its State too.
func (w *watch) looks() {
	w.Helper()
	if now := w.Epoch(); now != w.under {
		w.under, w.since = now, w.clock
		w.beats, w.takes = map[int]int{}, map[int]int{}
	}
	all := w.Running()
	w.count += len(all)
	if w.under == 0 {
		if len(all) > 0 {
			w.Fatalf("it is not registered, and there run %+v", all)
		}
		return
	}
	leased := w.clock <= w.since+tickLease
	for _, tick := range w.takes {
		leased = leased || w.clock <= tick+tickLease
	}
	for _, x := range all {
		if !leased || x.Epoch != w.under || x.Node != w.id || x.State != x.ID {
			w.Fatalf("at the tick %d, registered under %d since %d, beats answered of %v, there runs %+v", w.clock, w.under, w.since, w.takes, x)
		}
	}
}

// tick is a Tick; an error of it is one of the disk.
func (w *watch) tick() {
	w.Helper()
	w.clock++
	sent, e := w.Tick()
	if e != api.OK && e != errDisk {
		w.Fatalf("a Tick: %v", e)
	}
	w.looks()
	for _, x := range sent {
		if x.Cmd.Op == cmdBeat {
			w.beats[x.Ctx] = w.clock
		} else if w.boots[x.Ctx] > 0 {
			w.Fatalf("it registers by the number %d, which was used", x.Ctx)
		}
		w.seen = append(w.seen, x)
	}
	w.seen = w.seen[max(0, len(w.seen)-8):]
}

// take is a Take of an answer to something that it sent, doubled, late, or refused, now and then.
func (w *watch) take() {
	w.Helper()
	if len(w.seen) == 0 {
		return
	}
	to := w.seen[len(w.seen)-1]
	if w.dice.Intn(3) == 0 {
		to = w.seen[w.dice.Intn(len(w.seen))]
	}
	x := api.Msg{Kind: msgBeaten, From: to.To, To: to.From, Ctx: to.Ctx, Cmd: api.Cmd{Op: to.Cmd.Op, Node: to.Cmd.Node}, Hint: w.dice.Intn(5)}
	was := w.Epoch()
	if to.Cmd.Op == cmdRegister {
		w.epoch++
		x.Result.Value = w.epoch
	} else {
		x.Result = api.Result{Value: was, Allocs: w.anyAllocs(to.Cmd.Node.Epoch)}
		if code := w.dice.Intn(40); code < 3 {
			x.Result = api.Result{Code: []api.Errno{errLeader, errNode, errEpoch}[code]}
		} else if at, ok := w.beats[to.Ctx]; ok && to.Cmd.Node.Epoch == w.under {
			w.takes[to.Ctx] = at
		}
	}
	if e := w.Take(x); e != api.OK && e != errDisk {
		w.Fatalf("a Take: %v", e)
	}
	if now := w.Epoch(); was == 0 && now != 0 {
		w.registers(x)
	}
	w.looks()
}

// registers holds P17.6: no other registration had its boot number.
func (w *watch) registers(x api.Msg) {
	w.Helper()
	w.boots[x.Ctx]++
	if w.boots[x.Ctx] > 1 || x.Cmd.Op != cmdRegister || x.Result.Value != w.Epoch() {
		w.Fatalf("%+v registered it; by the numbers %v it was registered", x, w.boots)
	}
}

func (w *watch) anyAllocs(epoch int) []api.Alloc {
	var out []api.Alloc
	for id := range 8 {
		if w.dice.Intn(3) > 0 {
			x := api.Alloc{ID: id, Node: 2, Epoch: epoch, Stop: w.dice.Intn(5) == 0, State: id}
			if w.dice.Intn(9) == 0 {
				x.Epoch--
			}
			out = append(out, x)
		}
	}
	return out
}

// P17.5, P17.6: long runs of Ticks, of answers that are late, lost, doubled or refused, of disks that refuse, and of falls; the machine starts again, or the disk crashes under it.
func TestWatchedRuns(t *testing.T) {
	lives, registrations, count := 0, 0, 0
	for seed := range int64(300) {
		dice := rand.New(rand.NewSource(seed))
		d := disk.New()
		w := newWatch(t, dice, d, nil)
		answered, falls := 1+dice.Intn(6), 20+dice.Intn(200)
		for range 2000 {
			switch {
			case dice.Intn(falls) == 0:
				for range dice.Intn(3) { // starts that the disk refuses
					cut(t, d, dice.Intn(2))
					refusesStart(t, api.Node{ID: 2}, 3, d, errDisk)
					d.Crash(dice.Intn(3))
				}
				d.Crash(dice.Intn(3))
				w = newWatch(t, dice, d, w)
				lives++
			case dice.Intn(falls) == 0:
				cut(t, d, dice.Intn(3))
			case dice.Intn(30) == 0:
				d.Crash(dice.Intn(3))
			case dice.Intn(3) > 0:
				w.tick()
			case dice.Intn(answered) == 0:
				w.take()
			case dice.Intn(10) == 0:
				w.Exit(dice.Intn(8), dice.Intn(2) == 0)
				w.looks()
			}
		}
		registrations += len(w.boots)
		count += w.count
	}
	if lives < 3000 || registrations < 10000 || count < 200000 {
		t.Errorf("the runs came to too little: %d lives, %d registrations, %d tasks were seen to run", lives, registrations, count)
	}
}

// P17.6: the boot number is durable ahead of the first message with it: whatever of a disk is lost when a message was sent, the next boot has another number, at giving up and in the next life.
func TestFreshBehindEachMessage(t *testing.T) {
	for pick := range 4 {
		d := disk.New()
		for last := 0; last < 100; last += 2 {
			m := starts(t, 2, 3, d)
			for to := range 1 + pick {
				m.next(m.registering(to%3+1, last+1))
				d.Crash(pick)
			}
			m.takes(m.registered(last+1, 5))
			m.has(5)
			m.ticks(tickLease + 1)
			m.has(0)
			d.Crash(pick)
			bootIs(t, d, digits(last+2))
		}
	}
}

// P17.5: no answer at all, whatever it says, has a task run when Ticks alone come behind it: at most TickLease of them.
func TestNoTaskOutlivesItsLease(t *testing.T) {
	for seed := range int64(200) {
		dice := rand.New(rand.NewSource(seed))
		w := newWatch(t, dice, disk.New(), nil)
		for range 30 {
			for range 1 + dice.Intn(60) {
				w.tick()
				for dice.Intn(2) == 0 {
					w.take()
				}
			}
			for range tickLease {
				w.tick()
			}
			last := w.Running()
			w.tick()
			if now := w.Running(); len(now) > 0 || w.Epoch() != 0 {
				t.Fatalf("seed %d: %d Ticks behind the last answer there run %+v, and %+v ahead of it", seed, tickLease+1, now, last)
			}
		}
	}
}
