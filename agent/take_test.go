package agent_test

import (
	"testing"

	"coxswain/api"
)

// P17.3: what registers it: the epoch is the Value, the lease goes up to its clock and TickLease, and beats are counted anew.
func TestRegistered(t *testing.T) {
	for _, epoch := range []int{1, 2, 5, 1 << 31, 1 << 32, 1 << 40, 1<<63 - 1} {
		m := fresh(t)
		m.ticks(3)
		m.has(0)
		m.takes(m.registered(1, epoch))
		m.has(epoch)
		m.runs()
		m.next(m.beating(2, epoch, 1))
	}
}

// P17.3: it need not have been asked in this very message; nor does it count what else stands in the answer.
func TestWhatDoesNotCountInARegistration(t *testing.T) {
	for _, change := range []func(x *api.Msg){
		func(x *api.Msg) { x.From = -7 },
		func(x *api.Msg) { x.From = 102 },
		func(x *api.Msg) { x.Term, x.Index, x.LogTerm, x.Commit, x.Offset, x.Total = -1, -2, -3, -4, -5, -6 },
		func(x *api.Msg) { x.Reject = true },
		func(x *api.Msg) { x.Hint = -1 },
		func(x *api.Msg) { x.Cmd.Node = api.Node{} },
		func(x *api.Msg) { x.Cmd.Node = api.Node{ID: 3, Boot: 9, Epoch: 9, Seq: 9} },
		func(x *api.Msg) { x.Cmd.Client, x.Cmd.Req, x.Cmd.Job.ID = 1, 2, 3 },
		func(x *api.Msg) { x.Result.Allocs = []api.Alloc{{ID: 7, Node: 2, Epoch: 5}} },
		func(x *api.Msg) { x.Entries, x.Data = []api.Entry{{Index: 1}}, []byte{1} },
	} {
		m := fresh(t)
		x := m.registered(1, 5)
		change(&x)
		m.takes(x)
		m.has(5)
		m.runs()
		m.next(m.beating(1, 5, 1))
	}
}

// P17.3: what does not register it: each case alone.
func TestWhatDoesNotRegister(t *testing.T) {
	changes := []func(x *api.Msg){}
	for _, n := range append(farNumbers(), 4, 6, 7, 8, 11, 100, 101, 103) {
		if n != msgBeaten {
			changes = append(changes, func(x *api.Msg) { x.Kind = n })
		}
		if n != 102 {
			changes = append(changes, func(x *api.Msg) { x.To = n })
		}
		if n != 0 {
			changes = append(changes, func(x *api.Msg) { x.Result.Code = api.Errno(n) })
		}
		if n <= 0 {
			changes = append(changes, func(x *api.Msg) { x.Result.Value = n })
		}
		if n != 8 {
			changes = append(changes, func(x *api.Msg) { x.Ctx = n }, func(x *api.Msg) { x.Ctx, x.Cmd.Node.Boot = n, 8 })
		}
		if n != cmdRegister {
			changes = append(changes, func(x *api.Msg) { x.Cmd.Op = n })
		}
	}
	for i, change := range changes {
		m := starts(t, 2, 3, diskWith(t, "7"))
		m.ticks(3)
		x := m.registered(8, 5)
		change(&x)
		m.takes(x)
		if m.Epoch() != 0 {
			t.Fatalf("the change %d: %+v registered it", i, x)
		}
		bootIs(t, m.disk, "8")
		m.takes(m.registered(8, 6))
		m.has(6)
	}
}

// P17.3: while it is not registered no beat is taken, and no refusal of one lets it boot.
func TestBeatsWhileItIsNotRegistered(t *testing.T) {
	m := joined(t)
	m.next(m.beating(2, 5, 1))
	m.takes(m.refusal(5, 1, errEpoch))
	for _, epoch := range []int{0, 1, 2, 5} {
		for beat := range 4 {
			for _, code := range []api.Errno{errNode, errEpoch, errOld} {
				m.takes(m.refusal(epoch, beat, code))
			}
			m.takes(m.beaten(epoch, beat, m.task(7, epoch)))
			m.givenUp()
		}
	}
	bootIs(t, m.disk, "2")
}

// P17.3: a registration while it is registered says nothing, be it the same once more, or another; nor does one of an epoch that is over, behind it.
func TestRegistrationsWhileItIsRegistered(t *testing.T) {
	m := joined(t) // up to 11
	m.next(m.beating(2, 5, 1))
	m.takes(m.beaten(5, 1, m.task(7, 5))) // up to 14
	for clock := 6; clock < 14; clock++ {
		for _, boot := range []int{0, 1, 2} {
			for _, epoch := range []int{0, 4, 5, 6} {
				m.takes(m.registered(boot, epoch))
				again := m.registered(boot, epoch)
				again.Cmd.Node.Epoch = 5
				m.takes(again)
				again.Result.Code = errEpoch
				m.takes(again)
			}
		}
		m.has(5)
		m.runs(m.task(7, 5))
		m.ticks(1)
	}
	m.has(5)
	m.ticks(1)
	m.has(0)
	for range 20 {
		m.takes(m.registered(1, 5))
		m.has(0)
		m.ticks(1)
	}
	m.takes(m.registered(2, 6))
	m.has(6)
}

// P17.3: ErrNode and ErrEpoch of its epoch let it give up, of whatever beat: remembered or not, taken or not, sent or not.
func TestRefusalsOfAnyBeat(t *testing.T) {
	for _, code := range []api.Errno{errNode, errEpoch} {
		for _, beat := range append(farNumbers(), 4, 8, 11, 12) {
			m := joined(t)
			for sent := 1; sent <= 10; sent++ {
				m.ticks(tickRenew)
				m.takes(m.beaten(5, sent, m.task(7, 5)))
			}
			m.runs(m.task(7, 5))
			x := m.refusal(5, beat, code)
			x.Result.Value, x.Result.Allocs = 5, []api.Alloc{m.task(7, 5)}
			m.takes(x)
			m.givenUp()
			bootIs(t, m.disk, "2")
		}
	}
}

// P17.3: what is passed by while it is registered: each case alone; nothing is renewed by it, and nothing runs.
func TestWhatDoesNotRenew(t *testing.T) {
	changes := []func(x *api.Msg){}
	for _, n := range append(farNumbers(), 4, 6, 7, 8, 11, 31, 32, 33, 100, 101, 103) {
		if n != msgBeaten {
			changes = append(changes, func(x *api.Msg) { x.Kind = n })
		}
		if n != 102 {
			changes = append(changes, func(x *api.Msg) { x.To = n })
		}
		if code := api.Errno(n); code != api.OK && code != errNode && code != errEpoch {
			changes = append(changes, func(x *api.Msg) { x.Result.Code = code })
		}
		if n != 3 { // neither another one of those that were sent, for those were taken, nor one that was not
			changes = append(changes, func(x *api.Msg) { x.Ctx = n }, func(x *api.Msg) { x.Ctx, x.Cmd.Node.Seq = n, n })
		}
		if n != cmdBeat {
			changes = append(changes, func(x *api.Msg) { x.Cmd.Op = n })
		}
		if n != 5 {
			changes = append(changes, func(x *api.Msg) { x.Cmd.Node.Epoch = n })
		}
	}
	for i, change := range changes {
		for _, code := range []api.Errno{api.OK, errNode, errEpoch} {
			m := joined(t)
			for sent := 1; sent <= 2; sent++ {
				m.ticks(tickRenew)
				m.takes(m.beaten(5, sent, m.task(7, 5))) // up to 14, up to 17
			}
			m.ticks(tickRenew) // 12
			x := m.beaten(5, 3, m.task(8, 5))
			x.Result.Code = code
			change(&x)
			if good := m.beaten(5, 3); code != api.OK && x.Kind == good.Kind && x.To == good.To && x.Cmd.Op == good.Cmd.Op && x.Cmd.Node.Epoch == 5 {
				continue // of these it gives up, as it should
			}
			m.takes(x)
			if got := m.Running(); m.Epoch() != 5 || len(got) != 1 || got[0].ID != 7 {
				t.Fatalf("the change %d: by %+v it has the epoch %d, and runs %+v", i, x, m.Epoch(), got)
			}
			bootIs(t, m.disk, "1")
			m.ticks(5) // 17
			m.has(5)
			m.ticks(1)
			m.has(0)
		}
	}
}

// P17.3: what does not count in a beat's answer: whoever sent it, and what else stands in it.
func TestWhatDoesNotCountInABeat(t *testing.T) {
	for _, change := range []func(x *api.Msg){
		func(x *api.Msg) { x.From = -7 },
		func(x *api.Msg) { x.Term, x.Index, x.LogTerm, x.Commit, x.Offset, x.Total = -1, -2, -3, -4, -5, -6 },
		func(x *api.Msg) { x.Reject = true },
		func(x *api.Msg) { x.Cmd.Node = api.Node{Epoch: 5} },
		func(x *api.Msg) { x.Cmd.Node = api.Node{ID: 3, Boot: 9, Epoch: 5, Seq: 9} },
		func(x *api.Msg) { x.Cmd.Reports = []api.Report{{Alloc: 7, State: allocDone}} },
		func(x *api.Msg) { x.Result.Value = 0 },
		func(x *api.Msg) { x.Result.Value = -6 },
		func(x *api.Msg) { x.Entries, x.Data = []api.Entry{{Index: 1}}, []byte{1} },
	} {
		m := joined(t)
		m.next(m.beating(2, 5, 1))
		x := m.beaten(5, 1, m.task(7, 5))
		change(&x)
		m.takes(x)
		m.runs(m.task(7, 5))
		m.ticks(tickLease)
		m.has(5)
		m.ticks(1)
		m.has(0)
	}
}

// P17.3: a beat is taken once, and none that is older than one that was taken; one that is newer is, whichever were passed over.
func TestWhichBeatsAreTaken(t *testing.T) {
	for _, order := range [][]int{{1, 2, 3}, {1, 3, 2}, {2, 1, 3}, {2, 3, 1}, {3, 1, 2}, {3, 2, 1}, {1, 1, 2}, {2, 2, 1}, {3, 3, 3}, {2, 1, 1}, {1, 2, 1}, {1, 4, 2}, {4, 3, 2}, {0, -1, 1}} {
		m := fresh(t)
		m.ticks(3)
		m.takes(m.registered(1, 5)) // up to 11
		m.ticks(8)                  // beats at 6 and at 9
		last, lease := 0, 11
		count := 2
		for i, beat := range order {
			m.takes(m.beaten(5, beat, m.task(10+i, 5)))
			if beat >= 1 && beat <= count && beat > last {
				last, lease = beat, 3+3*beat+8
				m.runs(m.task(10+i, 5))
			} else if last == 0 {
				m.runs()
			}
		}
		for clock := 12; clock <= lease; clock++ {
			m.ticks(1)
			m.has(5)
		}
		m.ticks(1)
		m.has(0)
	}
}

// P17.3: answers that come late, up to the lease's last tick, each behind the next one's sending: the lease goes from the sending on.
func TestLateAnswers(t *testing.T) {
	for late := range 6 {
		m := joined(t)
		m.ticks(late)
		for beat := 1; beat < 50; beat++ {
			m.ticks(tickRenew)
			m.takes(m.beaten(5, beat, m.task(beat, 5))) // sent at 3 + 3*beat, so late ticks ago
			m.runs(m.task(beat, 5))
		}
		for range tickLease - late {
			m.ticks(1)
			m.has(5)
			m.runs(m.task(49, 5))
		}
		m.ticks(1)
		m.givenUp()
	}
}

// P17.3: the answer to a beat that was sent in another epoch is not one to a beat of this one, though their numbers are the same.
func TestBeatsOfAnotherEpoch(t *testing.T) {
	m := joined(t)
	m.next(m.beating(2, 5, 1))
	m.next(m.beating(3, 5, 2))
	m.takes(m.refusal(5, 1, errEpoch))
	m.takes(m.registered(2, 6)) // at 9: up to 17
	m.takes(m.beaten(6, 1, m.task(7, 6)))
	m.takes(m.beaten(6, 2, m.task(7, 6)))
	m.runs()
	m.next(m.beating(1, 6, 1)) // at 12
	m.takes(m.beaten(5, 1, m.task(7, 6)))
	m.takes(m.refusal(5, 1, errEpoch))
	m.takes(m.beaten(6, 2, m.task(7, 6)))
	m.runs()
	m.takes(m.beaten(6, 1, m.task(7, 6)))
	m.runs(m.task(7, 6)) // up to 20
	m.ticks(8)
	m.runs(m.task(7, 6))
	m.ticks(1)
	m.givenUp()
}

// P17.3: of more than eight beats the last eight are remembered, and of them those above the last that was taken count; all others do nothing, however old.
func TestTheRingGoesRound(t *testing.T) {
	m := joined(t)
	for beat := 1; beat <= 40; beat++ {
		m.next(m.beating(beat%3+1, 5, beat))
		for other := -3; other <= beat+20; other++ {
			if other != beat {
				m.takes(m.beaten(5, other, m.task(7, 5)))
				m.runs()
			}
		}
		m.takes(m.beaten(5, beat))
	}
	m.ticks(tickLease)
	m.has(5)
	m.ticks(1)
	m.has(0)
}

// P17.3: what is told when the lease is over runs nothing: at its last tick it does.
func TestToldAtTheEndOfTheLease(t *testing.T) {
	for late := range 4 {
		m := joined(t)
		m.next(m.beating(2, 5, 1))
		m.takes(m.beaten(5, 1)) // up to 14
		m.next(m.beating(3, 5, 2))
		m.next(m.beating(1, 5, 3))
		m.ticks(2) // 14
		if late > 0 {
			m.ticks(late)
		}
		m.takes(m.beaten(5, 2, m.task(7, 5)))
		if late > 0 {
			m.givenUp()
			m.takes(m.beaten(5, 3, m.task(7, 5)))
			m.givenUp()
			bootIs(t, m.disk, "2")
			continue
		}
		m.runs(m.task(7, 5)) // up to 17
		m.ticks(3)
		m.runs(m.task(7, 5))
		m.takes(m.beaten(5, 3, m.task(7, 5))) // up to 20
		m.ticks(3)
		m.runs(m.task(7, 5))
		m.ticks(1)
		m.givenUp()
	}
}
