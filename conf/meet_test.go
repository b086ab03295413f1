package conf_test

import (
	"testing"

	"coxswain/api"
	"coxswain/conf"
)

// haveVoter tells whether a voter of both stands in both lists.
func haveVoter(a, b api.Conf, first, second []int) bool {
	for s := 1; s <= 5; s++ {
		if stands(first, s) && stands(second, s) && conf.Voter(a, s) && conf.Voter(b, s) {
			return true
		}
	}
	return false
}

// majorities are all lists that rise and are one of c.
func majorities(c api.Conf) [][]int {
	var out [][]int
	for _, yes := range subsets() {
		if conf.Majority(c, yes) {
			out = append(out, yes)
		}
	}
	return out
}

// apart tells whether some majority of the one and some of the other one have no voter in common.
func apart(a, b api.Conf) bool {
	for _, first := range majorities(a) {
		for _, second := range majorities(b) {
			if !haveVoter(a, b, first, second) {
				return true
			}
		}
	}
	return false
}

// P7.5: of all that may be, with all majorities of either. The learners don't count there, so one beside is enough.
func TestMajoritiesMeet(t *testing.T) {
	pairs, far := 0, 0
	for _, first := range subsets() {
		for _, second := range subsets() {
			a, b := withLearner(first), withLearner(second)
			if !conf.May(a) || !conf.May(b) {
				continue
			}
			if !conf.Single(a, b) {
				if apart(a, b) {
					far++
				}
				continue
			}
			pairs++
			if apart(a, b) {
				t.Errorf("majorities of %v and of %v have no voter in common", a, b)
			}
		}
	}
	// Each of the 31 beside itself; and 75 that differ by one number, both ways about.
	if pairs != 31+2*75 {
		t.Errorf("%d pairs differ by one server at most", pairs)
	}
	if far == 0 {
		t.Error("any two meet: nothing was held to anything")
	}
}

// withLearner is servers with these voters, and the first one that votes not as a learner.
func withLearner(voters []int) api.Conf {
	c := servers(voters, nil)
	for s := 1; s <= 5; s++ {
		if !stands(voters, s) {
			c.Learners = []int{s}
			break
		}
	}
	return c
}

// P7.5: behind a change by Add, Promote or Remove too, what a majority has come to some voter of each majority of the other servers has come to.
func TestChangesMeet(t *testing.T) {
	for _, c := range allThatMayBe() {
		for _, h := range changes() {
			for s := 1; s <= 5; s++ {
				if d, e := h.make(c, s); e == api.OK && (apart(c, d) || apart(d, c)) {
					t.Errorf("%s(%v, %d): majorities have no voter in common", h.name, c, s)
				}
			}
		}
	}
}

// P7.2: what is agreed on is what a majority says yes to: two ways to one thing.
func TestAgreedIsAMajoritys(t *testing.T) {
	matches := listsOf(5, []int{0, 3, 8})
	for _, c := range allThatMayBe() {
		if len(c.Learners) > 1 {
			continue
		}
		for _, match := range matches {
			got := conf.Agreed(c, match)
			if got > 0 && !conf.Majority(c, beyond(match, got)) || conf.Majority(c, beyond(match, got+1)) {
				t.Errorf("Agreed(%v, %v): %d", c, match, got)
			}
		}
	}
}

// beyond are the servers that have come to n.
func beyond(match []int, n int) []int {
	var out []int
	for i, m := range match {
		if m >= n {
			out = append(out, i+1)
		}
	}
	return out
}
