package agent_test

import (
	"testing"

	"coxswain/api"
	"coxswain/disk"
)

// ending is a way in which a machine gives up: it asks of one that is registered under the epoch 5 what lets it give up, and is told what that is to answer.
type ending struct {
	name string
	ends func(m machine, want api.Errno)
}

// endings are all of them; each begins at the lease's last tick.
func endings() []ending {
	return []ending{
		{"the lease is over", func(m machine, want api.Errno) {
			m.Helper()
			sent, e := m.Tick()
			if e != want || e != api.OK && len(sent) != 0 {
				m.Fatalf("Tick: %+v, %v, not %v", sent, e, want)
			}
		}},
		{"ErrNode", func(m machine, want api.Errno) { m.Helper(); m.takesRefusal(errNode, want) }},
		{"ErrEpoch", func(m machine, want api.Errno) { m.Helper(); m.takesRefusal(errEpoch, want) }},
	}
}

// takesRefusal is a Take of a refused beat, and what it is to answer.
func (m machine) takesRefusal(code, want api.Errno) {
	m.Helper()
	if e := m.Take(m.refusal(5, 1, code)); e != want {
		m.Fatalf("Take of a beat that was refused by %v: %v, not %v", code, e, want)
	}
}

// giving has a test held for each way of giving up, of a machine on a disk whose last boot had this number (0: none), at its lease's last tick, at which a task runs; its clock is at 14, four messages were sent, the next one is due at the next tick.
func giving(t *testing.T, last int, test func(m machine, ends ending)) {
	for _, x := range endings() {
		t.Run(x.name, func(t *testing.T) {
			d := disk.New()
			if last > 0 {
				writes(t, d, digits(last))
			}
			m := starts(t, 2, 3, d)
			m.joins(last+1, 5)
			m.next(m.beating(2, 5, 1))
			m.takes(m.beaten(5, 1, m.task(7, 5)))
			m.next(m.beating(3, 5, 2, report(7, allocRunning)))
			m.next(m.beating(1, 5, 3, report(7, allocRunning)))
			m.silent(2)
			m.runs(m.task(7, 5))
			test(m, x)
		})
	}
}

// givenUp holds it that there is nothing any more of what it was registered for.
func (m machine) givenUp() {
	m.Helper()
	m.has(0)
	m.runs()
	if m.Exit(7, true) {
		m.Fatal("it has given up, and knows a task")
	}
}

// P17.2, P17.3: giving up: all tasks end and are forgotten, it is not registered, and boots by the next number, which is durable; then it registers by that.
func TestGivingUp(t *testing.T) {
	giving(t, 8, func(m machine, x ending) {
		x.ends(m, api.OK)
		m.givenUp()
		bootIs(t, m.disk, "10")
		durableIs(t, m.disk, "10")
		for range tickRenew {
			m.Tick()
		}
		m.has(0)
		m.takes(m.registered(10, 6))
		m.has(6)
		m.runs()
	})
}

// P17.2: it boots once each time, and not without giving up.
func TestBootsOnce(t *testing.T) {
	giving(t, 0, func(m machine, x ending) {
		bootIs(t, m.disk, "1")
		x.ends(m, api.OK)
		for range 50 {
			m.tick()
			bootIs(t, m.disk, "2")
			m.has(0)
		}
	})
}

// P17.2: a boot that the disk refuses at giving up: that is the answer, with no message, and of each Tick then, till it can be done; that Tick sends again, if it is one at which is sent.
func TestABootThatIsRefusedAtGivingUp(t *testing.T) {
	for cutBehind := range 2 {
		for failing := range 12 {
			giving(t, 0, func(m machine, x ending) {
				cut(t, m.disk, cutBehind)
				x.ends(m, errDisk)
				m.givenUp()
				now := 14
				if x.name == "the lease is over" {
					now = 15
				}
				for range failing {
					m.refused(errDisk)
					m.givenUp()
					now++
				}
				m.disk.Crash(0)
				bootIs(t, m.disk, "1")
				to := 2
				for range 2 * tickRenew {
					if now++; now%tickRenew != 0 {
						m.silent(1)
					} else {
						m.sends(m.registering(to, 2))
						to = to%3 + 1
					}
					bootIs(t, m.disk, "2")
				}
				durableIs(t, m.disk, "2")
			})
		}
	}
}

// P17.2: a boot whose Put was done, and whose Sync was refused: the number of the file, and one more, is the next one's, whatever is there by then.
func TestABootThatIsRefusedAtItsSync(t *testing.T) {
	giving(t, 0, func(m machine, x ending) {
		cut(t, m.disk, 1)
		x.ends(m, errDisk)
		bootIs(t, m.disk, "2")
		m.refused(errDisk)
		bootIs(t, m.disk, "2")
		m.disk.Crash(1)
		bootIs(t, m.disk, "2")
		m.ticks(3)
		durableIs(t, m.disk, "3")
		m.takes(m.registered(2, 6))
		m.has(0)
		m.takes(m.registered(3, 6))
		m.has(6)
	})
	giving(t, 0, func(m machine, x ending) {
		cut(t, m.disk, 1)
		x.ends(m, errDisk)
		cut(t, m.disk, 1) // the Put is done once more, and its Sync is refused once more
		m.refused(errDisk)
		bootIs(t, m.disk, "3")
		cut(t, m.disk, maxNumber)
		m.ticks(3)
		durableIs(t, m.disk, "4")
		m.takes(m.registered(4, 6))
		m.has(6)
	})
}

// P17.2: a machine that booted asks nothing of its disk, be it cut or not, till it gives up.
func TestTheDiskIsAskedOnlyToBoot(t *testing.T) {
	m := fresh(t)
	cut(t, m.disk, 0)
	m.joins(1, 5)
	for beat := 1; beat < 20; beat++ {
		m.ticks(tickRenew)
		m.takes(m.beaten(5, beat, m.task(beat, 5)))
		m.takes(m.refusal(5, beat, errLeader))
		m.Exit(beat, false)
	}
	m.has(5)
	m.ticks(tickLease)
	m.refused(errDisk)
	m.givenUp()
}

// P17.2: while it could not boot nothing is taken, and no Hint is noted; nor is it later, when it could.
func TestNothingIsTakenWithoutABoot(t *testing.T) {
	giving(t, 0, func(m machine, x ending) {
		cut(t, m.disk, 0)
		x.ends(m, errDisk)
		for range 3 {
			for _, boot := range []int{0, 1, 2, -1} {
				hinted := m.registered(boot, 6)
				hinted.Hint = 1
				m.takes(hinted)
				m.givenUp()
			}
			for _, epoch := range []int{0, 5, 6} {
				for beat := range 5 {
					m.takes(m.beaten(epoch, beat, m.task(8, epoch)))
					m.takes(m.refusal(epoch, beat, errNode))
					m.takes(m.refusal(epoch, beat, errEpoch))
					m.givenUp()
				}
			}
			m.refused(errDisk)
		}
		m.disk.Crash(0)
		for range tickRenew {
			for _, sent := range m.tick() {
				if !alike(sent, m.registering(2, 2)) {
					t.Fatalf("it sends %+v", sent)
				}
			}
		}
		bootIs(t, m.disk, "2")
	})
}

// P17.2: a Hint that was noted ahead of the boot's being refused stays.
func TestAHintThatStandsWhileItCannotBoot(t *testing.T) {
	m := joined(t)
	m.next(m.beating(2, 5, 1))
	cut(t, m.disk, 0)
	hinted := m.refusal(5, 1, errEpoch)
	hinted.Hint = 1
	if e := m.Take(hinted); e != errDisk {
		t.Fatalf("Take: %v", e)
	}
	for range 5 {
		m.refused(errDisk)
	}
	m.disk.Crash(0)
	m.sends(m.registering(1, 2))
	m.next(m.registering(1, 2))
	m.next(m.registering(2, 2))
}

// P17.1, P17.2: the boot number MaxNumber is the last one: it is written and used; behind it a machine boots no more, nor can one start.
func TestTheLastBootNumber(t *testing.T) {
	for _, x := range endings() {
		t.Run(x.name, func(t *testing.T) {
			m := starts(t, 2, 3, diskWith(t, digits(maxNumber-1)))
			m.next(m.registering(1, maxNumber))
			m.takes(m.registered(maxNumber, 5))
			m.has(5)
			m.ticks(tickLease)
			m.has(5)
			x.ends(m, errFull)
			m.givenUp()
			for range 10 {
				m.refused(errFull)
				m.givenUp()
				m.takes(m.registered(maxNumber, 5))
				m.takes(m.registered(maxNumber+1, 5))
				m.givenUp()
			}
			durableIs(t, m.disk, digits(maxNumber))
			refusesStart(t, api.Node{ID: 2}, 3, m.disk, errCorrupt)
			durableIs(t, m.disk, digits(maxNumber))
		})
	}
}

// P17.2: a file that became what it may not be, by another hand: no machine boots by it, and it stays as it is, till it is mended.
func TestAFileThatWasSpoiltMeanwhile(t *testing.T) {
	for _, text := range badBoots() {
		if text == digits(maxNumber) {
			continue
		}
		for _, x := range endings() {
			m := joined(t)
			m.ticks(tickLease)
			writes(t, m.disk, text)
			x.ends(m, errCorrupt)
			m.givenUp()
			m.refused(errCorrupt)
			if data, _ := m.disk.Read("boot"); string(data) != text {
				t.Fatalf("the file of %d bytes was changed to %.40q", len(text), data)
			}
			writes(t, m.disk, "41")
			m.ticks(tickRenew)
			durableIs(t, m.disk, "42")
			m.takes(m.registered(42, 6))
			m.has(6)
		}
	}
}

// P17.1, P17.2: the number is one more than the file's at that time, whoever wrote it; without a file it is 1.
func TestTheFileIsReadAtEachBoot(t *testing.T) {
	giving(t, 0, func(m machine, x ending) {
		writes(t, m.disk, "999")
		x.ends(m, api.OK)
		durableIs(t, m.disk, "1000")
		m.takes(m.registered(1000, 6))
		m.has(6)
	})
	giving(t, 8, func(m machine, x ending) {
		if e := m.disk.Remove("boot"); e != api.OK {
			t.Fatal(e)
		}
		x.ends(m, api.OK)
		durableIs(t, m.disk, "1")
		m.takes(m.registered(1, 6))
		m.has(6)
	})
}
