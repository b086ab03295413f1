package raftlog_test

import (
	"math/rand"
	"testing"

	"coxswain/api"
	"coxswain/raftlog"
)

// agree holds P8.6 of two logs: below any index at which both have an entry of one term they have the same entries, as far as both have them.
func agree(t *testing.T, a, b *raftlog.Log) {
	t.Helper()
	first, _ := a.Base()
	if i, _ := b.Base(); i > first {
		first = i
	}
	end, _ := a.Last()
	if i, _ := b.Last(); i < end {
		end = i
	}
	for i := end; i > first; i-- {
		x, _ := a.Term(i)
		y, _ := b.Term(i)
		if x == y {
			n := i - first
			if !alike(a.Slice(first+1, n), b.Slice(first+1, n)) {
				t.Fatalf("%s and %s: not alike, with term %d at %d", short(a.Slice(first+1, n)), short(b.Slice(first+1, n)), x, i)
			}
			return
		}
	}
}

// hand lets one log accept some of what another has, from an index on that it has itself, or the one behind its last.
func hand(dice *rand.Rand, from, to *raftlog.Log) (int, bool) {
	index, _ := from.Base()
	end, _ := from.Last()
	its, _ := to.Last()
	index += dice.Intn(max(min(end, its+1)-index, 0) + 1)
	term, _ := from.Term(index)
	return to.Accept(index, term, from.Slice(index+1, dice.Intn(6)))
}

// P8.6: what one log put, and another accepted in whatever pieces, is alike.
func TestAlikeOfTwo(t *testing.T) {
	dice := rand.New(rand.NewSource(8))
	taken, mark := 0, 0
	for range 200 {
		a, b := made(t, 0, 0), made(t, 0, 0)
		for range 60 {
			switch dice.Intn(8) {
			case 0, 1, 2:
				_, term := a.Last()
				mark++
				a.Put(max(term, 1)+dice.Intn(2), command(mark))
			case 3:
				i, _ := b.Last()
				a.Compact(min(i, dice.Intn(20)))
			case 4:
				b.Compact(dice.Intn(20))
			default:
				if at, ok := hand(dice, a, b); ok && at > 0 {
					taken++
				}
			}
			agree(t, a, b)
		}
	}
	if taken < 1000 {
		t.Fatalf("entries were taken only %d times", taken)
	}
}

// leads lets a log put entries of a term of its own, and the others accept some of what it has, as far back as they must.
func leads(dice *rand.Rand, logs []*raftlog.Log, leader, term int, mark *int) int {
	cut := 0
	for range dice.Intn(12) {
		if dice.Intn(2) == 0 {
			*mark++
			logs[leader].Put(term, command(*mark))
			continue
		}
		other := dice.Intn(len(logs))
		was, _ := logs[other].Last()
		if at, ok := hand(dice, logs[leader], logs[other]); ok && at > 0 && at <= was {
			cut++
		}
	}
	return cut
}

// P8.6: of several logs, each of which puts in terms of its own and accepts what others have, any two are alike.
func TestAlikeOfSeveral(t *testing.T) {
	dice := rand.New(rand.NewSource(8))
	cut, mark := 0, 0
	for range 100 {
		logs := []*raftlog.Log{made(t, 0, 0), made(t, 0, 0), made(t, 0, 0)}
		for term := 1; term < 30; term++ {
			cut += leads(dice, logs, dice.Intn(3), term, &mark)
			agree(t, logs[0], logs[1])
			agree(t, logs[0], logs[2])
			agree(t, logs[1], logs[2])
		}
	}
	if cut < 100 {
		t.Fatalf("entries took the place of others only %d times", cut)
	}
}

// P8.6: logs that have other entries behind the ones that they share are alike again when one accepts the other's.
func TestAlikeBehindADifference(t *testing.T) {
	a, b := made(t, 0, 0, 1, 1), made(t, 0, 0)
	accept(t, b, 0, 0, a.Slice(1, 9), 1, true)
	put(t, a, 2, command(1), api.Entry{Index: 3, Term: 2, Cmd: command(1)})
	put(t, a, 2, command(2), api.Entry{Index: 4, Term: 2, Cmd: command(2)})
	put(t, b, 3, command(3), api.Entry{Index: 3, Term: 3, Cmd: command(3)})
	agree(t, a, b)
	accept(t, a, 3, 3, b.Slice(4, 9), 0, false)
	accept(t, a, 2, 1, b.Slice(3, 9), 3, true)
	agree(t, a, b)
	holds(t, a, 0, 0, append(entries(1, 1, 1), api.Entry{Index: 3, Term: 3, Cmd: command(3)}))
}
