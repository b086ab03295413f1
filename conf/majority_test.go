package conf_test

import (
	"math"
	"math/rand"
	"testing"

	"coxswain/api"
	"coxswain/conf"
)

// isMajority is P7.2's word: each place of the list of voters counts.
func isMajority(c api.Conf, yes []int) bool {
	balance := 0
	for _, v := range c.Voters {
		if stands(yes, v) {
			balance++
		} else {
			balance--
		}
	}
	return balance > 0
}

// P7.2, the chapter's examples.
func TestExamplesOfMajorities(t *testing.T) {
	majority(t, example(), []int{1, 4}, false)
	majority(t, example(), []int{1, 3}, true)
	majority(t, example(), []int{1, 1, 4}, false)
	agreed(t, example(), []int{7, 5, 3, 9}, 5)
	agreed(t, example(), []int{7}, 0)
}

// P7.2: just half of an even number is no majority, one more is; of an odd number the greater half is; of none nothing is.
func TestMajorityOfEachNumber(t *testing.T) {
	least := []int{1, 1, 2, 2, 3, 3} // how many of so many voters are a majority; of none even one is not enough
	var voters []int
	for n := range least {
		if n > 0 {
			voters = append(voters, n)
		}
		var yes []int
		for said := 0; said <= n; said++ {
			majority(t, servers(voters, nil), yes, said >= least[n])
			yes = append(yes, n-said)
		}
	}
	for _, yes := range [][]int{nil, {}, {0}, {1}, {1, 2, 3, 4, 5}} {
		majority(t, api.Conf{}, yes, false)
		majority(t, servers(nil, []int{1, 2, 3}), yes, false)
	}
}

// P7.2: who says yes twice counts once, learners and strangers count not at all, and yes has no order.
func TestMajorityCountsVoters(t *testing.T) {
	five := servers([]int{1, 2, 3, 4, 5}, nil)
	majority(t, five, []int{5, 5, 5, 5, 5, 1}, false)
	majority(t, five, []int{5, 1, 5, 1, 3, 3}, true)
	majority(t, five, []int{5, 3, 1}, true)
	majority(t, five, []int{4, 2}, false)
	majority(t, five, []int{0, 6, 7, -1, 4, 2}, false)
	majority(t, servers([]int{1, 2}, []int{3, 4, 5}), []int{1, 3, 4, 5}, false)
	majority(t, servers([]int{1, 2}, []int{3, 4, 5}), []int{2, 1}, true)
	majority(t, servers([]int{4}, []int{1}), []int{1}, false)
	majority(t, servers([]int{4}, []int{1}), []int{4}, true)
	majority(t, servers([]int{1, 2, 3}, nil), farNumbers(), false)
}

// P7.2: of servers that may not be: a voter that stands twice counts twice, in the whole and in yes; a number out of range counts as any other.
func TestMajorityOfAnyVoters(t *testing.T) {
	majority(t, servers([]int{1, 1, 2}, nil), []int{1}, true)
	majority(t, servers([]int{1, 1, 2}, nil), []int{2, 2, 2}, false)
	majority(t, servers([]int{1, 2, 2, 1}, nil), []int{2}, false)
	majority(t, servers([]int{2, 1, 2, 3, 2}, nil), []int{2}, true)
	majority(t, servers([]int{9, -4, 0}, nil), []int{0, 9}, true)
	majority(t, servers([]int{math.MinInt, math.MaxInt, 1}, nil), []int{math.MaxInt, math.MinInt}, true)
	majority(t, servers([]int{math.MinInt, math.MaxInt, 1}, nil), []int{math.MaxInt, math.MinInt + 1}, false)
	majority(t, servers([]int{2}, []int{2}), []int{2}, true)

	lists := listsOf(4, []int{1, 2, 3, 6})
	for _, voters := range lists {
		for _, yes := range lists {
			c := servers(voters, []int{2, 5})
			majority(t, c, yes, isMajority(c, yes))
		}
	}
	dice := rand.New(rand.NewSource(7))
	for range 100000 {
		c, yes := anyServers(dice), anyList(dice, 8)
		majority(t, c, yes, isMajority(c, yes))
	}
}

// hasCome tells whether more than half of the voters have come to n.
func hasCome(c api.Conf, match []int, n int) bool {
	balance := 0
	for _, v := range c.Voters {
		come := 0
		for i, m := range match {
			if i == v-1 && m > 0 {
				come = m
			}
		}
		if come >= n {
			balance++
		} else {
			balance--
		}
	}
	return balance > 0
}

// agreedOf is P7.2's word: of the numbers to which a server can have come the greatest one that a majority has come to.
func agreedOf(c api.Conf, match []int) int {
	greatest := 0
	for _, m := range match {
		if m > greatest && hasCome(c, match, m) {
			greatest = m
		}
	}
	return greatest
}

// P7.2: of each number of voters, the one in the middle, or the lesser of the two.
func TestAgreedOfEachNumber(t *testing.T) {
	match := []int{50, 10, 40, 20, 30}
	agreed(t, servers([]int{1}, nil), match, 50)
	agreed(t, servers([]int{1, 2}, nil), match, 10)
	agreed(t, servers([]int{1, 2, 3}, nil), match, 40)
	agreed(t, servers([]int{1, 2, 3, 4}, nil), match, 20)
	agreed(t, servers([]int{1, 2, 3, 4, 5}, nil), match, 30)
	agreed(t, servers([]int{2, 4, 5}, []int{1, 3}), match, 20)
	agreed(t, servers([]int{2, 5}, []int{1, 3}), match, 10)
	agreed(t, servers([]int{1, 2, 3, 4, 5}, nil), []int{8, 8, 8, 8, 8}, 8)
	agreed(t, servers([]int{1, 2, 3, 4, 5}, nil), []int{8, 8, 9, 1, 1}, 8)
}

// P7.2: a server beyond the list has come to 0, numbers below 0 are 0, and what stands in the list for no voter does not count.
func TestAgreedOfOtherLists(t *testing.T) {
	three := servers([]int{1, 2, 3}, nil)
	agreed(t, three, nil, 0)
	agreed(t, three, []int{}, 0)
	agreed(t, three, []int{7}, 0)
	agreed(t, three, []int{7, 5}, 5)
	agreed(t, three, []int{7, 5, 0}, 5)
	agreed(t, three, []int{0, 0, 7}, 0)
	agreed(t, three, []int{7, 5, 6, 100, 100, 100, 100}, 6)
	agreed(t, three, []int{-7, -5, -3}, 0)
	agreed(t, three, []int{7, -5, 3}, 3)
	agreed(t, three, []int{7, -5, -3}, 0)
	agreed(t, three, []int{math.MinInt, math.MaxInt, math.MaxInt}, math.MaxInt)
	agreed(t, three, []int{math.MinInt, math.MinInt, math.MaxInt}, 0)
	agreed(t, three, []int{math.MaxInt, math.MaxInt - 1, math.MinInt}, math.MaxInt-1)
	agreed(t, servers([]int{5}, nil), []int{1, 2, 3, 4}, 0)
	agreed(t, servers([]int{5}, nil), []int{1, 2, 3, 4, 6}, 6)
}

// P7.2: of no voter there is no majority, so nothing is come to; of servers that may not be each place of the list counts, and a number below 1 or beyond the list has come to 0.
func TestAgreedOfAnyVoters(t *testing.T) {
	agreed(t, api.Conf{}, []int{7, 7, 7}, 0)
	agreed(t, servers([]int{}, []int{1, 2, 3}), []int{7, 7, 7}, 0)
	agreed(t, servers([]int{1, 1, 2}, nil), []int{7, 3}, 7)
	agreed(t, servers([]int{2, 2, 1}, nil), []int{7, 3}, 3)
	agreed(t, servers([]int{3, 1, 2}, nil), []int{7, 5, 6}, 6)
	agreed(t, servers([]int{7}, nil), []int{0, 0, 0, 0, 0, 0, 9}, 9)
	for _, far := range farNumbers() {
		if far == 6 || far == 7 {
			continue
		}
		agreed(t, servers([]int{far}, nil), []int{7, 7, 7, 7, 7}, 0)
		agreed(t, servers([]int{far, 1, 2}, nil), []int{7, 5}, 5)
		agreed(t, servers([]int{1, far}, nil), []int{7, 7, 7, 7, 7}, 0)
	}
}

// anyMatch is a list as Agreed takes it, of any length, with numbers twice, below 0, and at the type's ends.
func anyMatch(dice *rand.Rand) []int {
	var out []int
	for range dice.Intn(9) {
		switch dice.Intn(10) {
		case 0:
			out = append(out, int(dice.Uint64()))
		case 1:
			out = append(out, math.MinInt)
		case 2:
			out = append(out, math.MaxInt)
		default:
			out = append(out, dice.Intn(9)-2)
		}
	}
	return out
}

// P7.2: of all servers that may be, and of any at all; a majority has come to what is answered, and none to one more.
func TestAgreedOfAnyLists(t *testing.T) {
	dice := rand.New(rand.NewSource(7))
	all := allThatMayBe()
	for n := range 200000 {
		c := all[n%len(all)]
		if dice.Intn(2) == 0 {
			c = anyServers(dice)
		}
		match := anyMatch(dice)
		agreed(t, c, match, agreedOf(c, match))
		got := conf.Agreed(c, match)
		if len(c.Voters) > 0 && !hasCome(c, match, got) || got < math.MaxInt && hasCome(c, match, got+1) {
			t.Errorf("Agreed(%v, %v): %d", c, match, got)
		}
	}
}

// R1: long lists do not take their product in time.
func TestLongLists(t *testing.T) {
	const long = 1 << 18
	voters, yes := make([]int, long), make([]int, long)
	for i := range long {
		voters[i], yes[i] = long-i, long+i
	}
	majority(t, servers(voters, voters), yes, false)
	agreed(t, servers(voters, voters), yes, long+long/2-1)
	if got := conf.Members(servers(voters, voters)); len(got) != long || got[0] != 1 || got[long-1] != long {
		t.Errorf("%d members", len(got))
	}
	for i := range long/2 + 1 {
		yes[i] = i + 1
	}
	majority(t, servers(voters, nil), yes, true)
	yes[0] = 0
	majority(t, servers(voters, nil), yes, false)
}
