package conf_test

import (
	"math"
	"math/rand"
	"slices"
	"testing"

	"coxswain/api"
	"coxswain/conf"
)

func servers(voters, learners []int) api.Conf {
	return api.Conf{Voters: voters, Learners: learners}
}

// example is the chapter's c.
func example() api.Conf { return servers([]int{1, 2, 3}, []int{4}) }

// allThatMayBe are all servers that may be: each number votes, learns, or is not there.
func allThatMayBe() []api.Conf {
	var out []api.Conf
	for n := range 3 * 3 * 3 * 3 * 3 {
		var c api.Conf
		for s, rest := 1, n; s <= 5; s, rest = s+1, rest/3 {
			switch rest % 3 {
			case 1:
				c.Voters = append(c.Voters, s)
			case 2:
				c.Learners = append(c.Learners, s)
			}
		}
		if len(c.Voters) > 0 {
			out = append(out, c)
		}
	}
	return out
}

// listsOf are all lists of at most so many of these numbers, in all orders, with numbers twice.
func listsOf(most int, numbers []int) [][]int {
	out := [][]int{nil}
	from := 0
	for range most {
		upTo := len(out)
		for _, list := range out[from:upTo] {
			for _, n := range numbers {
				out = append(out, append(slices.Clone(list), n))
			}
		}
		from = upTo
	}
	return out
}

// subsets are all lists of 1 to 5 that rise.
func subsets() [][]int {
	var out [][]int
	for bits := range 1 << 5 {
		var list []int
		for i := range 5 {
			if bits>>i&1 == 1 {
				list = append(list, i+1)
			}
		}
		out = append(out, list)
	}
	return out
}

// farNumbers are those that are no server's: beside 1 and 5, the type's least and greatest, and those that are within when they are cut to fewer bits, or when their sign is lost.
func farNumbers() []int {
	out := []int{0, -1, 6, 7, math.MinInt, math.MinInt + 1, math.MaxInt - 1, math.MaxInt}
	for s := 1; s <= 5; s++ {
		out = append(out, -s, s+math.MinInt)
		for _, bits := range []int{3, 8, 16, 32, 40, 62} {
			out = append(out, s+1<<bits, s-1<<bits)
		}
	}
	slices.Sort(out)
	return slices.Compact(out)
}

// anyNumber is mostly a server's or one beside, now and then any at all.
func anyNumber(dice *rand.Rand) int {
	switch dice.Intn(12) {
	case 0:
		return int(dice.Uint64())
	case 1:
		far := farNumbers()
		return far[dice.Intn(len(far))]
	}
	return dice.Intn(8) - 1
}

func anyList(dice *rand.Rand, most int) []int {
	var out []int
	for range dice.Intn(most + 1) {
		out = append(out, anyNumber(dice))
	}
	return out
}

// anyServers are any at all: they may not be, mostly.
func anyServers(dice *rand.Rand) api.Conf {
	return servers(anyList(dice, 7), anyList(dice, 4))
}

// stands tells by each element alone whether s stands in a list.
func stands(list []int, s int) bool {
	for _, n := range list {
		if n == s {
			return true
		}
	}
	return false
}

// mayBe is the chapter's word 'servers may be', said another way: of the numbers 1 to 5 those that stand in a list are, in their order, the whole list.
func mayBe(c api.Conf) bool {
	var voters, learners []int
	for s := 1; s <= 5; s++ {
		if stands(c.Voters, s) {
			voters = append(voters, s)
		}
		if stands(c.Learners, s) {
			learners = append(learners, s)
		}
		if stands(c.Voters, s) && stands(c.Learners, s) {
			return false
		}
	}
	return len(voters) > 0 && slices.Equal(voters, c.Voters) && slices.Equal(learners, c.Learners)
}

func may(t *testing.T, c api.Conf, want bool) {
	t.Helper()
	if conf.May(c) != want {
		t.Errorf("May(%v): not %v", c, want)
	}
}

func majority(t *testing.T, c api.Conf, yes []int, want bool) {
	t.Helper()
	if conf.Majority(c, yes) != want {
		t.Errorf("Majority(%v, %v): not %v", c, yes, want)
	}
}

func agreed(t *testing.T, c api.Conf, match []int, want int) {
	t.Helper()
	if got := conf.Agreed(c, match); got != want {
		t.Errorf("Agreed(%v, %v): %d, not %d", c, match, got, want)
	}
}

func single(t *testing.T, a, b api.Conf, want bool) {
	t.Helper()
	if conf.Single(a, b) != want {
		t.Errorf("Single(%v, %v): not %v", a, b, want)
	}
}

// change is one of Add, Promote and Remove.
type change struct {
	name string
	make func(c api.Conf, s int) (api.Conf, api.Errno)
}

func add() change     { return change{"Add", conf.Add} }
func promote() change { return change{"Promote", conf.Promote} }
func remove() change  { return change{"Remove", conf.Remove} }

func changes() []change { return []change{add(), promote(), remove()} }

func (h change) answers(t *testing.T, c api.Conf, s int, want api.Conf) {
	t.Helper()
	got, e := h.make(c, s)
	if e != api.OK || !slices.Equal(got.Voters, want.Voters) || !slices.Equal(got.Learners, want.Learners) {
		t.Errorf("%s(%v, %d): %v, %d; not %v", h.name, c, s, got, e, want)
	}
}

func (h change) refuses(t *testing.T, c api.Conf, s int) {
	t.Helper()
	got, e := h.make(c, s)
	if e != 22 || len(got.Voters) != 0 || len(got.Learners) != 0 {
		t.Errorf("%s(%v, %d): %v, %d; not error 22 alone", h.name, c, s, got, e)
	}
}
