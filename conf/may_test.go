package conf_test

import (
	"math"
	"math/rand"
	"slices"
	"testing"

	"coxswain/api"
	"coxswain/conf"
)

// P7.1: servers that may not be, one fault each, and those beside that may.
func TestMayBeAndMayNot(t *testing.T) {
	may(t, example(), true)
	may(t, servers([]int{1}, nil), true)
	may(t, servers([]int{5}, nil), true)
	may(t, servers([]int{5}, []int{1, 2, 3, 4}), true)
	may(t, servers([]int{1, 2, 3, 4, 5}, nil), true)
	may(t, servers([]int{2, 4}, []int{1, 3, 5}), true)
	may(t, servers([]int{2, 4}, []int{}), true)

	may(t, api.Conf{}, false)
	may(t, servers([]int{}, []int{}), false)
	may(t, servers(nil, []int{1, 2}), false)
	may(t, servers([]int{1, 1}, nil), false)
	may(t, servers([]int{1, 2, 2, 3}, nil), false)
	may(t, servers([]int{1}, []int{2, 2}), false)
	may(t, servers([]int{2, 1}, nil), false)
	may(t, servers([]int{1, 3, 2}, nil), false)
	may(t, servers([]int{1}, []int{3, 2}), false)
	may(t, servers([]int{1}, []int{1}), false)
	may(t, servers([]int{1, 2}, []int{2, 3}), false)
	may(t, servers([]int{1, 5}, []int{5}), false)
	may(t, servers([]int{1, 2, 3, 4, 5}, []int{5}), false)
	for _, far := range farNumbers() {
		may(t, servers([]int{far}, nil), false)
		may(t, servers([]int{2, far}, nil), false)
		may(t, servers([]int{far, 2}, nil), false)
		may(t, servers([]int{1}, []int{far}), false)
		may(t, servers([]int{1}, []int{2, far}), false)
		may(t, servers([]int{1}, []int{far, 2}), false)
	}
}

// P7.1: all lists of few numbers beside all others, and any lists at all, by the chapter's word.
func TestMayOfAllLists(t *testing.T) {
	lists := append(listsOf(3, []int{0, 1, 2, 4, 5, 6}), subsets()...)
	for _, voters := range lists {
		for _, learners := range lists {
			c := servers(voters, learners)
			may(t, c, mayBe(c))
		}
	}
	dice := rand.New(rand.NewSource(7))
	for range 100000 {
		c := anyServers(dice)
		may(t, c, mayBe(c))
	}
}

// P7.1: all 243 - 32 that may be.
func TestMayOfAllThatMayBe(t *testing.T) {
	all := allThatMayBe()
	if len(all) != 211 {
		t.Fatalf("%d", len(all))
	}
	for _, c := range all {
		may(t, c, true)
	}
}

// P7.1: Same looks at both lists, at each number and its place; nil and empty lists are one (R4); of servers that may not be too.
func TestSame(t *testing.T) {
	lists := append(listsOf(2, []int{1, 2, 6}), []int{math.MinInt}, []int{math.MaxInt}, []int{1, 2, 3}, []int{3, 2, 1}, []int{1, 1, 1})
	for i, voters := range lists {
		for j, learners := range lists {
			for k, others := range lists {
				a := servers(voters, learners)
				if conf.Same(a, servers(others, learners)) != (i == k) {
					t.Errorf("Same(%v, voters %v)", a, others)
				}
				if conf.Same(a, servers(voters, others)) != (j == k) {
					t.Errorf("Same(%v, learners %v)", a, others)
				}
			}
			if !conf.Same(servers(voters, learners), servers(slices.Clone(voters), slices.Clone(learners))) {
				t.Errorf("Same of %v, %v and a copy", voters, learners)
			}
		}
	}
	for _, c := range []api.Conf{{}, servers([]int{}, nil), servers(nil, []int{}), servers([]int{}, []int{})} {
		if !conf.Same(c, api.Conf{}) || !conf.Same(api.Conf{}, c) {
			t.Errorf("Same of %v and none", c)
		}
	}
	if conf.Same(servers([]int{1, 2}, nil), servers(nil, []int{1, 2})) || conf.Same(servers([]int{1}, []int{2}), servers([]int{2}, []int{1})) {
		t.Error("Same of lists that changed places")
	}
}

// P7.1: Voter looks at the Voters alone, wherever the number stands in them, and whatever it is.
func TestVoter(t *testing.T) {
	for s, want := range []bool{false, true, true, true, false, false, false} {
		if conf.Voter(example(), s) != want {
			t.Errorf("Voter(%v, %d): not %v", example(), s, want)
		}
	}
	disorder := servers([]int{5, 1, 5, math.MaxInt, -3, math.MinInt, 2}, []int{4, 1, 7})
	for _, s := range []int{5, 1, math.MaxInt, -3, math.MinInt, 2} {
		if !conf.Voter(disorder, s) {
			t.Errorf("%d is no voter", s)
		}
	}
	for _, s := range []int{4, 7, 3, 0, 6, -5, math.MaxInt - 1, math.MinInt + 1} {
		if conf.Voter(disorder, s) {
			t.Errorf("%d is a voter", s)
		}
	}
	for _, s := range append(farNumbers(), 1, 2, 3, 4, 5) {
		if conf.Voter(api.Conf{}, s) || conf.Voter(servers(nil, []int{s}), s) || !conf.Voter(servers([]int{s}, nil), s) {
			t.Errorf("Voter of %d", s)
		}
	}
	dice := rand.New(rand.NewSource(7))
	for range 100000 {
		c, s := anyServers(dice), anyNumber(dice)
		if conf.Voter(c, s) != stands(c.Voters, s) {
			t.Errorf("Voter(%v, %d)", c, s)
		}
	}
}

func members(t *testing.T, c api.Conf, want []int) {
	t.Helper()
	if got := conf.Members(c); !slices.Equal(got, want) {
		t.Errorf("Members(%v): %v, not %v", c, got, want)
	}
}

// P7.1: Members rise, each once, of lists that are in any order and have numbers twice, in one or in both.
func TestMembers(t *testing.T) {
	members(t, example(), []int{1, 2, 3, 4})
	members(t, api.Conf{}, nil)
	members(t, servers([]int{}, []int{}), nil)
	members(t, servers(nil, []int{2, 5}), []int{2, 5})
	members(t, servers([]int{3}, []int{1, 2}), []int{1, 2, 3})
	members(t, servers([]int{2, 4}, []int{1, 3, 5}), []int{1, 2, 3, 4, 5})
	members(t, servers([]int{5, 1, 5, 1}, []int{1, 3, 3}), []int{1, 3, 5})
	members(t, servers([]int{9, -2, 0}, []int{6, 9, -2}), []int{-2, 0, 6, 9})
	members(t, servers([]int{math.MaxInt, 0, math.MinInt}, []int{math.MinInt, math.MaxInt, -1}), []int{math.MinInt, -1, 0, math.MaxInt})
}

// P7.1: of any two lists: each number of either is there, none else is, and each is above the one ahead of it.
func TestMembersOfAnyServers(t *testing.T) {
	dice := rand.New(rand.NewSource(7))
	for range 100000 {
		c := anyServers(dice)
		got := conf.Members(c)
		for i, s := range got {
			if i > 0 && got[i-1] >= s || !stands(c.Voters, s) && !stands(c.Learners, s) {
				t.Fatalf("Members(%v): %v", c, got)
			}
		}
		for _, s := range slices.Concat(c.Voters, c.Learners) {
			if !stands(got, s) {
				t.Fatalf("Members(%v): %v", c, got)
			}
		}
	}
}
