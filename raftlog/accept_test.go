package raftlog_test

import (
	"math"
	"testing"

	"coxswain/api"
)

// P8.3: entries that the log has none of stand behind its last.
func TestAcceptOfNewOnes(t *testing.T) {
	l := made(t, 0, 0)
	accept(t, l, 0, 0, entries(1, 1, 1, 4), 1, true)
	holds(t, l, 0, 0, entries(1, 1, 1, 4))
	accept(t, l, 3, 4, entries(4, 4), 4, true)
	accept(t, l, 4, 4, entries(5, 6, 9), 5, true)
	holds(t, l, 0, 0, entries(1, 1, 1, 4, 4, 6, 9))
	l = made(t, 7, 3)
	accept(t, l, 7, 3, entries(8, 3, most), 8, true)
	holds(t, l, 7, 3, entries(8, 3, most))
}

// P8.3: of entries that the log has, all are passed over; what stands behind them stays.
func TestAcceptOfOnesThatAreThere(t *testing.T) {
	terms := []int{2, 3, 3, 7, 9}
	l := made(t, 4, 2, terms...)
	for i := range terms {
		for n := i; n <= len(terms); n++ {
			ahead, _ := l.Term(4 + i)
			accept(t, l, 4+i, ahead, entries(5+i, terms[i:n]...), 0, true)
			holds(t, l, 4, 2, entries(5, terms...))
		}
	}
}

// P8.3: the first that differs, and all behind it, take the place of what was there, were it more or less.
func TestAcceptOfOnesThatDiffer(t *testing.T) {
	all := []int{2, 2, 3, 3, 3}
	for same := range all {
		for more := 1; more < 8; more++ {
			l := made(t, 4, 2, all...)
			terms := append([]int{}, all[:same]...)
			for range more {
				terms = append(terms, 8)
			}
			accept(t, l, 4, 2, entries(5, terms...), 5+same, true)
			holds(t, l, 4, 2, entries(5, terms...))
		}
	}
}

// P8.3: a lesser term takes the place of a greater one as well.
func TestAcceptOfLesserTerms(t *testing.T) {
	l := made(t, 0, 0, 1, 5, 5, 6)
	accept(t, l, 1, 1, entries(2, 2), 2, true)
	holds(t, l, 0, 0, entries(1, 1, 2))
	accept(t, l, 0, 0, entries(1, 1, 2, 3), 3, true)
	holds(t, l, 0, 0, entries(1, 1, 2, 3))
}

// P8.3: entries that differ only behind ones that are there begin with the first that differs.
func TestAcceptOfSome(t *testing.T) {
	l := made(t, 0, 0, 1, 1, 2, 2, 2)
	accept(t, l, 1, 1, entries(2, 1, 2, 3), 4, true)
	holds(t, l, 0, 0, entries(1, 1, 1, 2, 3))
	accept(t, l, 2, 1, entries(3, 2, 3, 3, 3), 5, true)
	holds(t, l, 0, 0, entries(1, 1, 1, 2, 3, 3, 3))
}

// P8.3: the same index and term is the same entry, whatever its command is: the log's stays.
func TestAcceptLooksAtNoCommand(t *testing.T) {
	l := made(t, 0, 0, 1, 1)
	other := entries(1, 1, 1, 1)
	other[0].Cmd, other[1].Cmd = command(77), api.Cmd{}
	accept(t, l, 0, 0, other[:2], 0, true)
	holds(t, l, 0, 0, entries(1, 1, 1))
	accept(t, l, 0, 0, other, 3, true)
	holds(t, l, 0, 0, entries(1, 1, 1, 1))
}

// P8.3: of the entries that come the log takes the commands as they are, whatever stands in them.
func TestAcceptOfAnyCommand(t *testing.T) {
	l := made(t, 0, 0)
	var list []api.Entry
	for i, far := range append(farNumbers(), 0, 1) {
		list = append(list, api.Entry{Index: i + 1, Term: 1, Cmd: api.Cmd{Op: far, Job: api.Job{ID: far, Groups: []api.Group{{Count: far}}}, Reports: []api.Report{}}})
	}
	accept(t, l, 0, 0, list, 1, true)
	holds(t, l, 0, 0, list)
}

// P8.3: of no entries it tells whether the term at the index is this one.
func TestAcceptOfNone(t *testing.T) {
	terms := []int{2, 2, 3, 7}
	l := made(t, 4, 2, terms[1:]...)
	for index := -1; index < 12; index++ {
		for term := -1; term < 10; term++ {
			there := index >= 4 && index <= 7 && terms[index-4] == term
			accept(t, l, index, term, nil, 0, there)
			accept(t, l, index, term, []api.Entry{}, 0, there)
		}
		for _, far := range farNumbers() {
			accept(t, l, index, far, nil, 0, false)
			accept(t, l, far, index, nil, 0, false)
		}
	}
	holds(t, l, 4, 2, entries(5, 2, 3, 7))
	l = made(t, 0, 0)
	accept(t, l, 0, 0, nil, 0, true)
	accept(t, l, 0, 1, nil, 0, false)
	accept(t, l, 1, 0, nil, 0, false)
	accept(t, l, -1, 0, nil, 0, false)
	accept(t, l, math.MaxInt, 0, nil, 0, false)
	accept(t, l, math.MinInt, 0, nil, 0, false)
}

// P8.3: behind an entry that the log has not, or has with another term, nothing is taken.
func TestAcceptWhereTheLogDiffers(t *testing.T) {
	l := made(t, 4, 2, 2, 3, 7)
	for _, at := range [][2]int{{3, 2}, {3, 0}, {0, 0}, {-1, 0}, {4, 1}, {4, 3}, {5, 1}, {5, 3}, {6, 2}, {6, 4}, {7, 6}, {7, 8}, {8, 7}, {8, 0}, {9, 7}, {most, 7}} {
		accept(t, l, at[0], at[1], entries(at[0]+1, at[1], at[1]+1), 0, false)
		accept(t, l, at[0], at[1], entries(at[0]+1, 9), 0, false)
	}
	holds(t, l, 4, 2, entries(5, 2, 3, 7))
}

// P8.3: indexes that do not follow, at each place of the list.
func TestAcceptOfIndexesThatDoNotFollow(t *testing.T) {
	l := made(t, 4, 2, 2, 3, 7)
	for place := range 5 {
		for _, index := range append(farNumbers(), 0, 1, 4, 5, 6, 7, 8, 9, 10, most) {
			list := entries(6, 3, 7, 7, 8, 8)
			if index == list[place].Index {
				continue
			}
			list[place].Index = index
			accept(t, l, 5, 2, list, 0, false)
			holds(t, l, 4, 2, entries(5, 2, 3, 7))
		}
	}
	accept(t, l, 5, 2, entries(7, 3, 7), 0, false)
	accept(t, l, 5, 2, entries(5, 2, 3), 0, false)
	holds(t, l, 4, 2, entries(5, 2, 3, 7))
}

// P8.3: terms that fall, or are below the one ahead, at each place, be the entry there or not.
func TestAcceptOfTermsThatFall(t *testing.T) {
	l := made(t, 4, 2, 2, 3, 7)
	for _, terms := range [][]int{{1}, {0}, {-1}, {math.MinInt}, {2, 1}, {3, 2}, {3, 7, 6}, {3, 7, 7, 6}, {3, 7, 9, 8}, {3, 7, 0}, {3, -1}, {1, 3, 7}, {9, 3}} {
		accept(t, l, 5, 2, entries(6, terms...), 0, false)
		holds(t, l, 4, 2, entries(5, 2, 3, 7))
	}
	empty := made(t, 0, 0)
	accept(t, empty, 0, 0, entries(1, -1), 0, false)
	accept(t, empty, 0, 0, entries(1, 1, 0), 0, false)
	holds(t, empty, 0, 0, nil)
}

// P8.3: numbers up to the greatest that may be, and none above.
func TestAcceptOfTheGreatestNumbers(t *testing.T) {
	l := made(t, most-2, 5)
	accept(t, l, most-2, 5, entries(most-1, 5, 5, 5), 0, false)
	accept(t, l, most-2, 5, entries(most-1, 5, most+1), 0, false)
	accept(t, l, most-2, 5, entries(most-1, math.MaxInt), 0, false)
	holds(t, l, most-2, 5, nil)
	accept(t, l, most-2, 5, entries(most-1, 5, most), most-1, true)
	holds(t, l, most-2, 5, entries(most-1, 5, most))
	accept(t, l, most, most, nil, 0, true)
	accept(t, l, most, most, entries(most+1, most), 0, false)
	accept(t, l, most-1, 5, entries(most, most, most), 0, false)
	holds(t, l, most-2, 5, entries(most-1, 5, most))
	for _, far := range farNumbers() {
		accept(t, l, far, 5, []api.Entry{{Index: far + 1, Term: 5}}, 0, false)
		accept(t, l, most-1, far, []api.Entry{{Index: most, Term: far}}, 0, false)
	}
	holds(t, l, most-2, 5, entries(most-1, 5, most))
}

// P8.3: a wrong entry behind ones that would be taken lets none of them be taken.
func TestAcceptTakesAllOrNone(t *testing.T) {
	wrong := []api.Entry{entry(9, 4), entry(11, 4), entry(10, 3), entry(10, most+1), entry(10, -4), {}}
	for _, x := range wrong {
		l := made(t, 4, 2, 2, 3, 3)
		accept(t, l, 5, 2, append(entries(6, 3, 4, 4, 4), x), 0, false)
		holds(t, l, 4, 2, entries(5, 2, 3, 3))
	}
}

// P8.3: by its words a term of 0 is not below that of the base (0, 0).
func TestAcceptOfTheTermNought(t *testing.T) {
	l := made(t, 0, 0)
	accept(t, l, 0, 0, entries(1, 0, 0, 1), 1, true)
	holds(t, l, 0, 0, entries(1, 0, 0, 1))
	compact(t, l, 2, api.OK)
	holds(t, l, 2, 0, entries(3, 1))
	accept(t, l, 2, 0, entries(3, 1, 1), 4, true)
}
