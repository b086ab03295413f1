package raftlog_test

import (
	"testing"

	"coxswain/api"
)

// P8.4: entries by Put stand one behind the other.
func TestPut(t *testing.T) {
	l := made(t, 0, 0)
	want := entries(1, 1, 1, 2, 5, 5, most)
	for i, x := range want {
		put(t, l, x.Term, x.Cmd, x)
		holds(t, l, 0, 0, want[:i+1])
	}
	l = made(t, 41, 6)
	want = entries(42, 6, 7)
	put(t, l, 6, want[0].Cmd, want[0])
	put(t, l, 7, want[1].Cmd, want[1])
	holds(t, l, 41, 6, want)
}

// P8.4: a command is taken as it is, whatever stands in it.
func TestPutOfAnyCommand(t *testing.T) {
	l := made(t, 0, 0)
	var want []api.Entry
	commands := []api.Cmd{{}, {Op: -1, Reports: []api.Report{}, Conf: api.Conf{Voters: []int{}}}, command(7)}
	for _, far := range farNumbers() {
		commands = append(commands, api.Cmd{Op: far, Client: far, Conf: api.Conf{Voters: []int{far}}})
	}
	for i, c := range commands {
		x := api.Entry{Index: i + 1, Term: 1, Cmd: c}
		put(t, l, 1, c, x)
		want = append(want, x)
	}
	holds(t, l, 0, 0, want)
}

// P8.4: a term that may not be is refused, and changes nothing.
func TestPutOfATermThatMayNotBe(t *testing.T) {
	l := made(t, 0, 0)
	for _, far := range append(farNumbers(), 0) {
		refusesPut(t, l, far, api.ErrArg)
	}
	holds(t, l, 0, 0, nil)
	l = made(t, 3, 5)
	for _, term := range append(farNumbers(), 0, 1, 4) {
		refusesPut(t, l, term, api.ErrArg)
	}
	holds(t, l, 3, 5, nil)
	l = made(t, 3, 2, 2, 5)
	for _, term := range append(farNumbers(), 0, 1, 2, 3, 4) {
		refusesPut(t, l, term, api.ErrArg)
	}
	holds(t, l, 3, 2, entries(4, 2, 5))
	put(t, l, 5, command(1), api.Entry{Index: 6, Term: 5, Cmd: command(1)})
}

// P8.4: the last index that may be is given, none behind it; a wrong term is told ahead of that.
func TestPutAtTheLastIndex(t *testing.T) {
	l := made(t, most-1, 4)
	put(t, l, 4, command(1), api.Entry{Index: most, Term: 4, Cmd: command(1)})
	full := []api.Entry{{Index: most, Term: 4, Cmd: command(1)}}
	for _, term := range []int{4, 5, most} {
		refusesPut(t, l, term, api.ErrFull)
	}
	for _, term := range append(farNumbers(), 0, 1, 3) {
		refusesPut(t, l, term, api.ErrArg)
	}
	holds(t, l, most-1, 4, full)
	compact(t, l, most, api.OK)
	refusesPut(t, l, 4, api.ErrFull)
	refusesPut(t, l, 3, api.ErrArg)
	holds(t, l, most, 4, nil)
	l = made(t, most, most)
	refusesPut(t, l, most, api.ErrFull)
	refusesPut(t, l, most-1, api.ErrArg)
	holds(t, l, most, most, nil)
}
