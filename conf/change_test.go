package conf_test

import (
	"math/rand"
	"slices"
	"testing"

	"coxswain/api"
	"coxswain/conf"
)

// P7.3 and P7.4, the chapter's examples.
func TestExamplesOfChanges(t *testing.T) {
	add().refuses(t, example(), 4)
	add().answers(t, example(), 5, servers([]int{1, 2, 3}, []int{4, 5}))
	promote().answers(t, example(), 4, servers([]int{1, 2, 3, 4}, nil))
	promote().refuses(t, example(), 1)
	remove().answers(t, example(), 1, servers([]int{2, 3}, []int{4}))
	single(t, example(), servers([]int{1, 2}, nil), true)
	single(t, example(), servers([]int{1}, nil), false)
	single(t, example(), servers([]int{1, 2, 4}, nil), false)
}

// P7.3: one voter more, one less, one changed for another, and two; learners are as they are.
func TestSingle(t *testing.T) {
	c := servers([]int{2, 4}, []int{1})
	single(t, c, c, true)
	single(t, c, servers([]int{2, 4}, nil), true)
	single(t, c, servers([]int{2, 4}, []int{3, 5}), true)
	single(t, c, servers([]int{1, 2, 4}, nil), true)
	single(t, c, servers([]int{2, 3, 4}, []int{1}), true)
	single(t, c, servers([]int{2, 4, 5}, []int{1}), true)
	single(t, c, servers([]int{2}, []int{4}), true)
	single(t, c, servers([]int{4}, nil), true)
	single(t, c, servers([]int{2, 5}, []int{1}), false)
	single(t, c, servers([]int{1, 4}, []int{2}), false)
	single(t, c, servers([]int{5}, []int{1}), false)
	single(t, c, servers([]int{1, 2, 3, 4}, nil), false)
	single(t, c, servers([]int{1, 2, 3, 4, 5}, nil), false)
	single(t, servers([]int{1}, nil), servers([]int{2}, nil), false)
	single(t, servers([]int{1}, nil), servers([]int{1, 5}, nil), true)
}

// P7.3: of servers that may not be it is false, at either place, were they the same or not.
func TestSingleOfWhatMayNotBe(t *testing.T) {
	wrong := []api.Conf{{}, servers(nil, []int{1}), servers([]int{1, 1}, nil), servers([]int{2, 1}, nil), servers([]int{1, 2, 3, 6}, nil), servers([]int{0, 1, 2}, nil), servers([]int{1, 2, 3}, []int{3}), servers([]int{1, 2, 3}, []int{5, 4}), servers([]int{1, 2, 3}, []int{4, 4}), servers([]int{1, 2, 3}, []int{9})}
	for _, far := range farNumbers() {
		wrong = append(wrong, servers([]int{1, 2, 3, far}, nil), servers([]int{far, 1, 2, 3}, nil), servers([]int{1, 2, 3}, []int{far}))
	}
	for _, w := range wrong {
		for _, c := range []api.Conf{example(), servers([]int{1}, nil), servers([]int{1, 2}, nil)} {
			single(t, w, c, false)
			single(t, c, w, false)
		}
		single(t, w, w, false)
	}
}

// isSingle is P7.3's word, of any two.
func isSingle(a, b api.Conf) bool {
	differ := 0
	for s := 1; s <= 5; s++ {
		if stands(a.Voters, s) != stands(b.Voters, s) {
			differ++
		}
	}
	return mayBe(a) && mayBe(b) && differ < 2
}

// P7.3: all that may be beside all that may be, and any at all.
func TestSingleOfAll(t *testing.T) {
	all := allThatMayBe()
	for _, a := range all {
		for _, b := range all {
			single(t, a, b, isSingle(a, b))
		}
	}
	dice := rand.New(rand.NewSource(7))
	for range 100000 {
		a, b := anyServers(dice), all[dice.Intn(len(all))]
		single(t, a, b, isSingle(a, b))
		single(t, b, a, isSingle(b, a))
	}
}

// P7.4: a new learner stands at its place among the others.
func TestAdd(t *testing.T) {
	add().answers(t, servers([]int{1}, nil), 2, servers([]int{1}, []int{2}))
	add().answers(t, servers([]int{5}, nil), 1, servers([]int{5}, []int{1}))
	add().answers(t, servers([]int{1}, nil), 5, servers([]int{1}, []int{5}))
	add().answers(t, servers([]int{3}, []int{2, 5}), 1, servers([]int{3}, []int{1, 2, 5}))
	add().answers(t, servers([]int{3}, []int{2, 5}), 4, servers([]int{3}, []int{2, 4, 5}))
	add().answers(t, servers([]int{2, 4}, []int{1, 3}), 5, servers([]int{2, 4}, []int{1, 3, 5}))
	add().refuses(t, servers([]int{2, 4}, []int{1, 3}), 2)
	add().refuses(t, servers([]int{2, 4}, []int{1, 3}), 4)
	add().refuses(t, servers([]int{2, 4}, []int{1, 3}), 1)
	add().refuses(t, servers([]int{2, 4}, []int{1, 3}), 3)
}

// P7.4: who was a learner stands at its place among the voters, and is a learner no more.
func TestPromote(t *testing.T) {
	promote().answers(t, servers([]int{5}, []int{1}), 1, servers([]int{1, 5}, nil))
	promote().answers(t, servers([]int{2, 4}, []int{1, 3, 5}), 1, servers([]int{1, 2, 4}, []int{3, 5}))
	promote().answers(t, servers([]int{2, 4}, []int{1, 3, 5}), 3, servers([]int{2, 3, 4}, []int{1, 5}))
	promote().answers(t, servers([]int{2, 4}, []int{1, 3, 5}), 5, servers([]int{2, 4, 5}, []int{1, 3}))
	promote().refuses(t, servers([]int{2, 4}, []int{1, 3, 5}), 2)
	promote().refuses(t, servers([]int{2, 4}, []int{1}), 3)
	promote().refuses(t, servers([]int{2, 4}, nil), 1)
}

// P7.4: a voter or a learner goes, but not the only voter, with learners beside it or none.
func TestRemove(t *testing.T) {
	remove().answers(t, servers([]int{2, 4}, []int{1, 3, 5}), 2, servers([]int{4}, []int{1, 3, 5}))
	remove().answers(t, servers([]int{2, 4}, []int{1, 3, 5}), 4, servers([]int{2}, []int{1, 3, 5}))
	remove().answers(t, servers([]int{2, 4}, []int{1, 3, 5}), 3, servers([]int{2, 4}, []int{1, 5}))
	remove().answers(t, servers([]int{2}, []int{5}), 5, servers([]int{2}, nil))
	remove().answers(t, servers([]int{1, 2, 3, 4, 5}, nil), 3, servers([]int{1, 2, 4, 5}, nil))
	remove().refuses(t, servers([]int{2}, nil), 2)
	remove().refuses(t, servers([]int{2}, []int{1, 3}), 2)
	remove().refuses(t, servers([]int{2}, []int{1, 3}), 4)
	remove().refuses(t, servers([]int{2, 4}, nil), 1)
}

// P7.4: of servers that may not be every change is refused, of each number; so is one of a number that is no server's, of each that may be.
func TestChangesThatAreWrong(t *testing.T) {
	wrong := []api.Conf{{}, servers(nil, []int{1, 2}), servers([]int{1, 1}, []int{3}), servers([]int{2, 1}, []int{3}), servers([]int{1, 2, 6}, []int{3}), servers([]int{0, 1, 2}, []int{3}), servers([]int{1, 2}, []int{2, 3}), servers([]int{1, 2}, []int{4, 3}), servers([]int{1, 2}, []int{3, 3}), servers([]int{1, 2}, []int{3, 6}), servers([]int{1, 2}, []int{-1, 3})}
	for _, far := range farNumbers() {
		wrong = append(wrong, servers([]int{1, 2, far}, nil), servers([]int{far, 1, 2}, nil), servers([]int{1, 2}, []int{far}))
	}
	for _, h := range changes() {
		for _, w := range wrong {
			for _, s := range append(farNumbers(), 1, 2, 3, 4, 5) {
				h.refuses(t, w, s)
			}
		}
		for _, c := range allThatMayBe() {
			for _, far := range farNumbers() {
				h.refuses(t, c, far)
			}
		}
	}
}

// rolesOf is what each of the servers 1 to 5 is: 1 a voter, 2 a learner, 0 neither.
func rolesOf(c api.Conf) [6]int {
	var out [6]int
	for _, s := range c.Voters {
		out[s] = 1
	}
	for _, s := range c.Learners {
		out[s] = 2
	}
	return out
}

func ofRoles(roles [6]int) api.Conf {
	var c api.Conf
	for s, role := range roles {
		switch role {
		case 1:
			c.Voters = append(c.Voters, s)
		case 2:
			c.Learners = append(c.Learners, s)
		}
	}
	return c
}

// P7.4 and P7.6: of all that may be each change of each server: what is answered has another role for it alone, may be, and is one step away.
func TestAllChanges(t *testing.T) {
	for _, c := range allThatMayBe() {
		for s := 1; s <= 5; s++ {
			roles := rolesOf(c)
			was := roles[s]
			checks := []struct {
				change
				may  bool
				role int
			}{
				{add(), was == 0, 2},
				{promote(), was == 2, 1},
				{remove(), was == 2 || was == 1 && len(c.Voters) > 1, 0},
			}
			for _, check := range checks {
				if !check.may {
					check.refuses(t, c, s)
					continue
				}
				roles[s] = check.role
				check.answers(t, c, s, ofRoles(roles))
				oneStepAway(t, check.change, c, s)
			}
		}
	}
}

// oneStepAway holds P7.6 of a change that is not refused, by the document's words and by the program's.
func oneStepAway(t *testing.T, h change, c api.Conf, s int) {
	t.Helper()
	d, e := h.make(c, s)
	if e != api.OK || !mayBe(d) || !conf.May(d) || !isSingle(c, d) || !conf.Single(c, d) || !conf.Single(d, c) || conf.Same(c, d) {
		t.Errorf("%s(%v, %d): %v, %d", h.name, c, s, d, e)
	}
}

// P7.6: any changes, one behind the other, never lead to servers that may not be, and reach all that may.
func TestWalkOfChanges(t *testing.T) {
	dice := rand.New(rand.NewSource(7))
	all := allThatMayBe()
	been := make([]int, len(all))
	c := example()
	for range 20000 {
		h, s := changes()[dice.Intn(3)], dice.Intn(7)
		d, e := h.make(c, s)
		if e != api.OK {
			h.refuses(t, c, s)
			continue
		}
		oneStepAway(t, h, c, s)
		c = d
		been[slices.IndexFunc(all, func(a api.Conf) bool { return conf.Same(a, c) })]++
	}
	for i, n := range been {
		if n == 0 {
			t.Errorf("%v was never come to", all[i])
		}
	}
}

// P7.4: who is added can be taken away again, and who is promoted too, and all else is then as it was.
func TestThereAndBack(t *testing.T) {
	for _, c := range allThatMayBe() {
		for s := 1; s <= 5; s++ {
			added, e := conf.Add(c, s)
			if e != api.OK {
				continue
			}
			remove().answers(t, added, s, c)
			promoted, e := conf.Promote(added, s)
			if e != api.OK || !conf.Voter(promoted, s) {
				t.Fatalf("Promote(%v, %d): %v, %d", added, s, promoted, e)
			}
			remove().answers(t, promoted, s, c)
		}
	}
}
