package agent_test

import (
	"testing"

	"coxswain/api"
)

// teller is a machine that is told, beat behind beat, what to run.
type teller struct {
	machine
	beat int
}

// tell has the next beat answered with these.
func (x *teller) tell(allocs ...api.Alloc) {
	x.Helper()
	x.ticks(tickRenew)
	x.beat++
	x.takes(x.beaten(5, x.beat, allocs...))
}

// knows holds it that it reports just these.
func (x *teller) knows(want ...api.Report) {
	x.Helper()
	x.beat++
	if got := x.reports(); !alike(got, append([]api.Report(nil), want...)) {
		x.Fatalf("it knows %+v, not %+v", got, want)
	}
}

// told is one that was told these first.
func told(t *testing.T, allocs ...api.Alloc) *teller {
	t.Helper()
	x := &teller{machine: joined(t)}
	x.tell(allocs...)
	return x
}

// P17.3: of what is told only those of its ID and its epoch count; the others it neither runs nor knows.
func TestToldOfOthers(t *testing.T) {
	for _, n := range append(farNumbers(), 4, 6) {
		x := told(t)
		other, older := x.task(8, 5), x.task(9, 5)
		if n != 2 {
			other.Node = n
		}
		if n != 5 {
			older.Epoch = n
		}
		mine := []api.Report{report(7, allocRunning)}
		runs := []api.Alloc{x.task(7, 5)}
		if n == 2 {
			mine, runs = append(mine, report(8, allocRunning)), append(runs, other)
		}
		if n == 5 {
			mine, runs = append(mine, report(9, allocRunning)), append(runs, older)
		}
		x.tell(stopped(older), other, x.task(7, 5), older)
		x.runs(runs...)
		x.knows(mine...)
	}
}

// P17.3: one that is known and is told as another node's, or of another epoch, is not told: it is forgotten.
func TestKnownAndToldOfOthers(t *testing.T) {
	x := told(t)
	other, older := x.task(7, 5), x.task(8, 5)
	x.tell(other, older, x.task(9, 5))
	x.runs(other, older, x.task(9, 5))
	other.Node, older.Epoch = 3, 4
	x.tell(other, older, x.task(9, 5))
	x.runs(x.task(9, 5))
	x.knows(report(9, allocRunning))
}

// P17.3: what is not known runs, if it is not to Stop, whatever state the store tells; else it is known as AllocEnded, and never runs.
func TestToldAnew(t *testing.T) {
	for _, state := range append(farNumbers(), allocFailed, allocLost) {
		x := told(t)
		runs, ends := x.task(7, 5), stopped(x.task(8, 5))
		runs.State, ends.State = state, state
		for range 3 {
			x.tell(runs, ends)
			x.runs(runs)
			x.knows(report(7, allocRunning), report(8, allocEnded))
		}
		if x.Exit(8, false) {
			t.Fatal("what never ran ended")
		}
		ends.Stop = false
		x.tell(runs, ends) // not to Stop any more
		x.runs(runs)
		x.knows(report(7, allocRunning), report(8, allocEnded))
	}
}

// P17.3: what is known and is to Stop: it ends, if it is not over; else it stays what it was; and it does not run again, when it is not to Stop any more.
func TestToldToStop(t *testing.T) {
	x := told(t)
	all := func(stop bool) []api.Alloc {
		out := []api.Alloc{x.task(6, 5), x.task(7, 5), x.task(8, 5), x.task(9, 5)}
		for i := range out {
			out[i].Stop = stop && i > 0
		}
		return out
	}
	x.tell(all(false)...)
	x.Exit(8, false)
	x.Exit(9, true)
	x.runs(x.task(6, 5), x.task(7, 5))
	want := []api.Report{report(6, allocRunning), report(7, allocRunning), report(8, allocDone), report(9, allocFailed)}
	x.knows(want...)
	want[1].State = allocEnded
	for _, stop := range []bool{true, true, false, true, false} {
		x.tell(all(stop)...)
		x.runs(x.task(6, 5))
		x.knows(want...)
		for id := 7; id <= 9; id++ {
			if x.Exit(id, id%2 == 0) {
				t.Fatalf("the task %d is over, and ended", id)
			}
		}
	}
}

// P17.3: what is known stays as it was told first, but for its state, whatever is told of it later.
func TestToldOtherwise(t *testing.T) {
	x := told(t)
	first := x.task(7, 5)
	x.tell(first)
	for _, n := range farNumbers() {
		x.tell(api.Alloc{ID: 7, Job: n, Version: n, Group: n, Index: n, Node: 2, Epoch: 5, Ask: api.Res{CPU: n, Mem: n}, State: n})
		x.runs(first)
	}
	other := first
	other.Job++
	x.tell()
	x.runs()
	x.tell(other) // it was forgotten, so this is told first
	x.runs(other)
}

// P17.3, P17.4: the State that the store tells is the allocation's, and stays in what Running tells as it was told first, be it one of a task that is new, that runs, that is over, or none at all; by its own state beside it a task runs, is reported, and is over. What it knows stays so, whatever State is told of it later; what it forgot is told first once more.
func TestTheStateThatIsTold(t *testing.T) {
	states := append(farNumbers(), allocFailed, 6, 7)
	for i, state := range states {
		x := told(t)
		stays, exits, fails, stops := x.task(6, 5), x.task(7, 5), x.task(8, 5), x.task(9, 5)
		for _, one := range []*api.Alloc{&stays, &exits, &fails, &stops} {
			one.State = state
		}
		x.tell(stays, exits, fails, stops)
		x.runs(stays, exits, fails, stops)
		x.knows(report(6, allocRunning), report(7, allocRunning), report(8, allocRunning), report(9, allocRunning))

		again := []api.Alloc{stays, exits, fails, stopped(stops)}
		for j := range again {
			again[j].State = states[(i+1+j)%len(states)]
		}
		if !x.Exit(7, false) || !x.Exit(8, true) {
			t.Fatalf("told with the State %d a task did not end", state)
		}
		x.runs(stays, stops)
		x.tell(again...)
		x.runs(stays)
		x.knows(report(6, allocRunning), report(7, allocDone), report(8, allocFailed), report(9, allocEnded))

		x.tell()
		x.tell(again...)
		x.runs(again[:3]...)
		x.knows(report(6, allocRunning), report(7, allocRunning), report(8, allocRunning), report(9, allocEnded))
	}
}

// P17.3: of two of one ID that are told first, the last one's State is what Running tells.
func TestTheStateOfTwoOfOneID(t *testing.T) {
	for state := range 8 {
		x := told(t)
		first, last := x.task(7, 5), x.task(7, 5)
		first.State, last.State = state, 7-state
		x.tell(first, last)
		x.runs(last)
		x.tell(last, first)
		x.runs(last)
	}
}

// P17.3: what is known and is not told is forgotten, over or not; it runs again, if it is told again.
func TestNotToldAnyMore(t *testing.T) {
	x := told(t)
	all := []api.Alloc{x.task(6, 5), x.task(7, 5), x.task(8, 5), x.task(9, 5), stopped(x.task(10, 5))}
	x.tell(all...)
	x.Exit(8, false)
	x.Exit(9, true)
	x.knows(report(6, allocRunning), report(7, allocRunning), report(8, allocDone), report(9, allocFailed), report(10, allocEnded))
	x.tell(all[0], all[2])
	x.runs(all[0])
	x.knows(report(6, allocRunning), report(8, allocDone))
	for _, id := range []int{7, 9, 10} {
		if x.Exit(id, false) {
			t.Fatalf("the task %d is forgotten, and ended", id)
		}
	}
	x.tell(x.task(7, 5), x.task(8, 5), x.task(9, 5), x.task(10, 5))
	x.runs(x.task(7, 5), x.task(9, 5), x.task(10, 5))
	x.knows(report(7, allocRunning), report(8, allocDone), report(9, allocRunning), report(10, allocRunning))
	x.tell()
	x.runs()
	x.knows()
}

// P17.3: of two of one ID the last counts, and it alone: of those of its ID and epoch.
func TestTwoOfOneID(t *testing.T) {
	x := told(t)
	mine := x.task(7, 5)
	other, foreign, older := mine, mine, mine
	other.Job, foreign.Node, older.Epoch = 99, 3, 4
	for _, c := range []struct {
		told []api.Alloc
		want []api.Alloc
		ends bool
	}{
		{[]api.Alloc{mine, other}, []api.Alloc{other}, false},
		{[]api.Alloc{other, mine}, []api.Alloc{mine}, false},
		{[]api.Alloc{stopped(other), mine}, []api.Alloc{mine}, false},
		{[]api.Alloc{mine, stopped(other)}, nil, true},
		{[]api.Alloc{mine, stopped(other), mine}, []api.Alloc{mine}, false},
		{[]api.Alloc{stopped(mine), mine, stopped(mine)}, nil, true},
		{[]api.Alloc{mine, foreign}, []api.Alloc{mine}, false},
		{[]api.Alloc{mine, older}, []api.Alloc{mine}, false},
		{[]api.Alloc{mine, stopped(foreign), stopped(older)}, []api.Alloc{mine}, false},
		{[]api.Alloc{stopped(mine), foreign, older}, nil, true},
		{[]api.Alloc{foreign, other, older}, []api.Alloc{other}, false},
	} {
		state := allocRunning
		if c.ends {
			state = allocEnded
		}
		x.tell() // it knows none
		x.tell(c.told...)
		x.runs(c.want...)
		x.knows(report(7, state))

		x.tell()
		x.tell(mine) // now it knows it, as it was told first
		x.tell(c.told...)
		if c.ends {
			x.runs()
		} else {
			x.runs(mine)
		}
		x.knows(report(7, state))

		x.tell()
		x.tell(mine)
		x.Exit(7, true) // now it is over
		x.tell(c.told...)
		x.runs()
		x.knows(report(7, allocFailed))
	}
}

// P17.3: an answer that is passed by changes no task: one that is older, and one with a Code.
func TestTasksStayBehindWhatIsPassedBy(t *testing.T) {
	x := told(t)
	x.tell(x.task(7, 5), x.task(8, 5))
	x.Exit(8, false)
	for beat := range 20 {
		x.takes(x.beaten(5, beat-5))
		for _, code := range []api.Errno{errLeader, errOld, errFull, errArg, -1} {
			x.takes(x.refusal(5, 3, code))
		}
	}
	x.runs(x.task(7, 5))
	x.knows(report(7, allocRunning), report(8, allocDone))
}

// P17.3: an answer that tells nothing, beside OK: all are forgotten, and the lease is longer.
func TestToldNothing(t *testing.T) {
	x := told(t)
	x.tell(x.task(7, 5), stopped(x.task(8, 5)))
	x.tell()
	x.runs()
	x.ticks(tickLease)
	x.has(5)
	x.ticks(1)
	x.has(0)
}

// P17.4: Exit of what runs: true, once; it is AllocDone, or AllocFailed, and does not run any more; of all else false, and nothing changes.
func TestExit(t *testing.T) {
	for _, failed := range []bool{false, true} {
		state := allocDone
		if failed {
			state = allocFailed
		}
		x := told(t)
		x.tell(x.task(7, 5), x.task(8, 5), stopped(x.task(9, 5)))
		for _, id := range append(farNumbers(), 6, 102) {
			for _, how := range []bool{false, true} {
				if x.Exit(id, how) {
					t.Fatalf("the task %d, which does not run, ended", id)
				}
			}
		}
		x.runs(x.task(7, 5), x.task(8, 5))
		if !x.Exit(7, failed) {
			t.Fatal("a task that runs did not end")
		}
		x.runs(x.task(8, 5))
		for _, how := range []bool{failed, !failed} {
			if x.Exit(7, how) {
				t.Fatal("a task ended twice")
			}
		}
		x.runs(x.task(8, 5))
		x.knows(report(7, state), report(8, allocRunning), report(9, allocEnded))
	}
}

// P17.4: Exit of a machine that was never told anything.
func TestExitOfNothing(t *testing.T) {
	m := fresh(t)
	for _, id := range farNumbers() {
		if m.Exit(id, true) {
			t.Fatalf("the task %d of a new machine ended", id)
		}
	}
	m.joins(1, 5)
	if m.Exit(7, false) {
		t.Fatal("a task of a machine that was just registered ended")
	}
}

// P17.4: what runs is told by ID, whatever the order in which it came, and those of IDs that may not be too.
func TestRunningByID(t *testing.T) {
	numbers := []int{3, 1 << 40, -1, 0, 100, 20, -1 << 63, 1<<63 - 1, 1, 2, 1 << 32}
	sorted := []int{-1 << 63, -1, 0, 1, 2, 3, 20, 100, 1 << 32, 1 << 40, 1<<63 - 1}
	for turn := range numbers {
		x := told(t)
		var all, want []api.Alloc
		var reports []api.Report
		for i := range numbers {
			a := api.Alloc{ID: numbers[(i+turn)%len(numbers)], Job: i, Node: 2, Epoch: 5}
			all = append(all, a)
		}
		for _, id := range sorted {
			reports = append(reports, report(id, allocRunning))
			for _, a := range all {
				if a.ID == id {
					want = append(want, a)
				}
			}
		}
		x.tell(all...)
		x.runs(want...)
		x.knows(reports...)
		if !x.Exit(want[0].ID, false) || !x.Exit(want[4].ID, false) || !x.Exit(want[10].ID, false) {
			t.Fatal("a task that runs did not end")
		}
		x.runs(append(append([]api.Alloc(nil), want[1:4]...), want[5:10]...)...)
	}
}
