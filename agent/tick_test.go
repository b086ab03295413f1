package agent_test

import (
	"testing"

	"coxswain/api"
	"coxswain/disk"
)

// P17.2: it sends at each tick of its clock that TickRenew divides, from the third one on, and at no other; what is taken between, and giving up, do not move them.
func TestAtWhichTicksItSends(t *testing.T) {
	for joinAt := range 12 {
		m := fresh(t)
		boot := 1
		for clock := 1; clock < 300; clock++ {
			if sent := m.tick(); (len(sent) == 1) != (clock%3 == 0) || len(sent) > 1 {
				t.Fatalf("registered at each tick %d behind a fall: at the tick %d it sends %+v", joinAt, clock, sent)
			}
			if m.Epoch() == 0 && clock%17 == joinAt {
				m.takes(m.registered(boot, clock))
				boot++
				m.has(clock)
			}
		}
	}
}

// P17.2: the whole first messages, from and to each machine and server.
func TestWhatItRegistersWith(t *testing.T) {
	for id := 1; id <= 4; id++ {
		for servers := 1; servers <= 5; servers++ {
			m := starts(t, id, servers, diskWith(t, "76"))
			for sent := range 3 * servers {
				m.next(m.registering(sent%servers+1, 77))
			}
		}
	}
}

// P17.2: the whole beats; they are counted from 1 in each epoch, and go on round the servers behind the messages ahead.
func TestBeatsAreCounted(t *testing.T) {
	for servers := 1; servers <= 5; servers++ {
		m := starts(t, 3, servers, disk.New())
		sent := 0
		to := func() int { sent++; return (sent-1)%servers + 1 }
		for boot := 1; boot < 6; boot++ {
			for range boot {
				m.next(m.registering(to(), boot))
			}
			epoch := 10 * boot
			m.takes(m.registered(boot, epoch))
			for beat := 1; beat < 30; beat++ {
				m.next(m.beating(to(), epoch, beat))
				m.takes(m.beaten(epoch, beat))
			}
			m.takes(m.refusal(epoch, 3, errEpoch))
			m.has(0)
		}
	}
}

// P17.2: while it is not registered it registers, however long nobody answers; no lease ends then, and it boots no more.
func TestRegisteringLong(t *testing.T) {
	m := fresh(t)
	for sent := range 500 {
		m.next(m.registering(sent%3+1, 1))
	}
	bootIs(t, m.disk, "1")
	m.takes(m.registered(1, 4))
	m.ticks(tickLease)
	m.has(4)
	m.ticks(1)
	m.has(0)
}

// P17.2: the lease of a registration: it is registered at its last tick, and gives up at the one behind it.
func TestTheEndOfARegistrationsLease(t *testing.T) {
	for at := range 20 {
		m := fresh(t)
		m.ticks(at)
		m.takes(m.registered(1, 5))
		for range tickLease {
			m.ticks(1)
			m.has(5)
			bootIs(t, m.disk, "1")
		}
		m.ticks(1)
		m.has(0)
		bootIs(t, m.disk, "2")
	}
}

// P17.2: the message of the tick at which it gives up is a registration by the new number, not a beat; and of the lease's last tick a beat.
func TestWhatItSendsAtTheEndOfItsLease(t *testing.T) {
	for _, x := range []struct{ at, quiet, to int }{
		{3, 0, 1}, // the lease goes up to 11; now comes 12, and the fourth message
		{4, 2, 2}, // up to 12; now comes 13, and the next message at 15 is the fifth
		{5, 1, 2},
	} {
		m := fresh(t)
		m.ticks(x.at)
		m.takes(m.registered(1, 5))
		m.ticks(tickLease)
		m.has(5)
		m.silent(x.quiet)
		m.sends(m.registering(x.to, 2))
		m.has(0)
	}
	m := fresh(t)
	m.ticks(4)
	m.takes(m.registered(1, 5)) // up to 12
	m.ticks(1)
	m.sends(m.beating(2, 5, 1))
	m.next(m.beating(3, 5, 2))
	m.next(m.beating(1, 5, 3))
	m.has(5)
	m.silent(1)
	m.has(0)
}

// P17.2: a task runs up to the lease's last tick, and is forgotten at the one behind it; it comes not back with the next registration.
func TestTasksEndWithTheLease(t *testing.T) {
	m := joined(t)
	m.next(m.beating(2, 5, 1)) // at 6: up to 14
	m.takes(m.beaten(5, 1, m.task(7, 5), m.task(8, 5)))
	m.Exit(8, true)
	for range tickLease {
		m.ticks(1)
		m.runs(m.task(7, 5))
	}
	m.ticks(1)
	m.runs()
	m.has(0)
	if m.Exit(7, true) || m.Exit(8, true) {
		t.Fatal("tasks that are forgotten ended")
	}
	m.takes(m.registered(2, 6))
	m.has(6)
	m.runs()
	m.next(m.beating(3, 6, 1))
	m.takes(m.beaten(6, 1, m.task(7, 6), m.task(8, 6)))
	m.runs(m.task(7, 6), m.task(8, 6))
}

// hints are messages that it takes, and that do nothing but tell a Hint.
func (m machine) hints(hint int) {
	m.Helper()
	m.takes(api.Msg{Kind: msgBeaten, To: 100 + m.id, Hint: hint})
}

// P17.2: the leader that it is told is asked first, once; the count of messages goes on under it.
func TestAHintIsAskedFirst(t *testing.T) {
	for servers := 1; servers <= 5; servers++ {
		for hint := -2; hint <= 7; hint++ {
			for ahead := range 7 {
				m := starts(t, 2, servers, disk.New())
				for sent := range ahead {
					m.next(m.registering(sent%servers+1, 1))
				}
				m.hints(hint)
				to := hint
				if hint < 1 || hint > servers {
					to = ahead%servers + 1
				}
				m.next(m.registering(to, 1))
				for sent := ahead + 1; sent < ahead+8; sent++ {
					m.next(m.registering(sent%servers+1, 1))
				}
			}
		}
	}
}

// P17.2: of several Hints the last one counts, be it none.
func TestTheLastHintCounts(t *testing.T) {
	for _, x := range []struct {
		hints []int
		to    int
	}{
		{[]int{2, 3}, 3}, {[]int{3, 2}, 2}, {[]int{3, 0}, 1}, {[]int{3, 4}, 1}, {[]int{3, -1}, 1}, {[]int{0, 3}, 3}, {[]int{9, 3, 0, 3, 2}, 2}, {append(farNumbers(), 3), 3}, {farNumbers(), 1},
	} {
		m := fresh(t)
		for _, hint := range x.hints {
			m.hints(hint)
		}
		m.next(m.registering(x.to, 1))
		m.next(m.registering(2, 1))
	}
}

// P17.2: a Hint stands till the next message, however long that takes, through registration and giving up; it is of any message to it, whatever else comes of that.
func TestHintsOfAnyMessage(t *testing.T) {
	m := fresh(t)
	m.ticks(1)
	x := m.registered(1, 5)
	x.Hint = 3
	m.takes(x)
	m.has(5)
	m.ticks(1)
	m.sends(m.beating(3, 5, 1))
	for beat, made := range []func() api.Msg{
		func() api.Msg { return m.refusal(5, 2, errLeader) },
		func() api.Msg { return m.beaten(5, 1) }, // taken
		func() api.Msg { return m.beaten(5, 1) }, // not, for it was
		func() api.Msg { return m.beaten(4, 1) },
		func() api.Msg { return m.registered(1, 5) },
		func() api.Msg { return api.Msg{Kind: msgBeaten, To: 102} },
	} {
		x = made()
		x.Hint = 2 - beat%2
		m.takes(x)
		m.next(m.beating(2-beat%2, 5, 2+beat))
		m.takes(m.beaten(5, 2+beat))
	}
	x = m.refusal(5, 1, errNode)
	x.Hint = 3
	m.takes(x)
	m.has(0)
	m.next(m.registering(3, 2))
	m.takes(m.registered(2, 6))
	m.ticks(tickLease - 1)
	m.hints(2)
	m.ticks(1)
	m.has(6)
	m.sends(m.registering(2, 3))
	m.has(0)
}

// P17.2: what is not for it tells no Hint.
func TestHintsOfOthers(t *testing.T) {
	m := fresh(t)
	for _, x := range []api.Msg{{Kind: msgBeat, To: 102, Hint: 3}, {Kind: 11, To: 102, Hint: 3}, {To: 102, Hint: 3}, {Kind: msgBeaten, To: 101, Hint: 3}, {Kind: msgBeaten, To: 2, Hint: 3}, {Kind: msgBeaten, Hint: 3}} {
		m.takes(x)
	}
	m.next(m.registering(1, 1))
}

// reports are what it reports in its next beat, one Tick at least behind now.
func (m machine) reports() []api.Report {
	m.Helper()
	for range tickRenew {
		if sent := m.tick(); len(sent) == 1 {
			return sent[0].Cmd.Reports
		}
	}
	m.Fatal("it sends nothing")
	return nil
}

// P17.2: all tasks that it knows are reported, over or not, by ID, each with its state, in each beat.
func TestReports(t *testing.T) {
	m := joined(t)
	m.next(m.beating(2, 5, 1))
	told := []api.Alloc{m.task(12, 5), m.task(3, 5), m.task(10, 5), stopped(m.task(7, 5)), m.task(1, 5), m.task(2, 5)}
	m.takes(m.beaten(5, 1, told...))
	m.Exit(3, false)
	m.Exit(12, true)
	want := []api.Report{report(1, allocRunning), report(2, allocRunning), report(3, allocDone), report(7, allocEnded), report(10, allocRunning), report(12, allocFailed)}
	m.next(m.beating(3, 5, 2, want...))
	m.next(m.beating(1, 5, 3, want...))
	told[2].Stop = true
	m.takes(m.beaten(5, 3, told...))
	want[4].State = allocEnded
	m.next(m.beating(2, 5, 4, want...))
}

// P17.2: at most MaxReports, those with the least IDs; it knows the others all the same.
func TestMoreTasksThanReports(t *testing.T) {
	for _, count := range []int{0, 1, 63, 64, 65, 66, 128, 200} {
		m := joined(t)
		m.next(m.beating(2, 5, 1))
		var told, sorted []api.Alloc
		var want []api.Report
		for i := range count {
			told = append(told, m.task(3*((i*79+5)%count)-20, 5)) // 79 is prime to all counts: each once
			sorted = append(sorted, m.task(3*i-20, 5))
			if i < maxReports {
				want = append(want, report(3*i-20, allocRunning))
			}
		}
		m.takes(m.beaten(5, 1, told...))
		m.runs(sorted...)
		m.next(m.beating(3, 5, 2, want...))
		m.runs(sorted...)
		if count <= maxReports {
			continue
		}
		last := sorted[count-1].ID
		if !m.Exit(last, false) || !m.Exit(sorted[0].ID, false) {
			t.Fatal("a task that runs did not end")
		}
		want[0].State = allocDone
		m.next(m.beating(1, 5, 3, want...))
		m.takes(m.beaten(5, 3, sorted[count-1], sorted[count-2]))
		m.runs(sorted[count-2])
		m.next(m.beating(2, 5, 4, report(last-3, allocRunning), report(last, allocDone)))
	}
}

// P17.2: a registration reports nothing.
func TestRegistrationsReportNothing(t *testing.T) {
	m := joined(t)
	m.next(m.beating(2, 5, 1))
	m.takes(m.beaten(5, 1, m.task(7, 5)))
	m.takes(m.refusal(5, 1, errEpoch))
	m.next(m.registering(3, 2))
	m.takes(m.registered(2, 5))
	if got := m.reports(); len(got) != 0 {
		t.Fatalf("a beat of a new registration reports %+v", got)
	}
}
