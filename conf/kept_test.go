package conf_test

import (
	"math/rand"
	"slices"
	"testing"

	"coxswain/api"
	"coxswain/conf"
)

const spare = -77

// roomy is a list with spare room behind it that is filled with a number of its own.
func roomy(list []int) []int {
	out := append(slices.Clone(list), spare, spare, spare, spare)
	return out[:len(list)]
}

// kept tells whether a roomy list is as it was, and its spare room too.
func kept(list, was []int) bool {
	whole := list[:len(list)+4]
	return slices.Equal(whole[:len(was)], was) && slices.Equal(whole[len(was):], []int{spare, spare, spare, spare})
}

// fill overwrites a list and all of its spare room.
func fill(list []int, n int) {
	whole := list[:cap(list)]
	for i := range whole {
		whole[i] = n
	}
}

// handed are servers of both kinds: that may be, and any at all.
func handed(dice *rand.Rand) []api.Conf {
	out := allThatMayBe()
	for range 2000 {
		out = append(out, anyServers(dice))
	}
	return out
}

// R4: no call changes what it is handed, nor its spare room.
func TestWhatIsHandedInStays(t *testing.T) {
	dice := rand.New(rand.NewSource(7))
	for _, c := range handed(dice) {
		other, list := anyServers(dice), anyList(dice, 8)
		a := servers(roomy(c.Voters), roomy(c.Learners))
		b := servers(roomy(other.Voters), roomy(other.Learners))
		l := roomy(list)
		conf.May(a)
		conf.Same(a, b)
		conf.Members(a)
		conf.Majority(a, l)
		conf.Agreed(a, l)
		conf.Single(a, b)
		conf.Single(b, a)
		for s := 0; s <= 6; s++ {
			conf.Voter(a, s)
			conf.Add(a, s)
			conf.Promote(a, s)
			conf.Remove(a, s)
		}
		if !kept(a.Voters, c.Voters) || !kept(a.Learners, c.Learners) || !kept(b.Voters, other.Voters) || !kept(b.Learners, other.Learners) || !kept(l, list) {
			t.Fatalf("%v, %v or %v was changed", c, other, list)
		}
	}
}

// R4: Members answers new memory: with one list alone, with both, with numbers that already rise.
func TestMembersAreTheCallers(t *testing.T) {
	dice := rand.New(rand.NewSource(7))
	for _, c := range append(handed(dice), servers([]int{1, 2, 3}, nil), servers(nil, []int{1, 2, 3})) {
		a := servers(roomy(c.Voters), roomy(c.Learners))
		got := conf.Members(a)
		want := slices.Clone(got)
		fill(got, 99)
		if !kept(a.Voters, c.Voters) || !kept(a.Learners, c.Learners) {
			t.Fatalf("Members(%v) shares with what was handed in", c)
		}
		members(t, a, want)
	}
}

// R4: what the changes answer shares nothing with what was handed in, and its two lists nothing with each other; the answers of two calls neither.
func TestChangesAreTheCallers(t *testing.T) {
	for _, c := range allThatMayBe() {
		for _, h := range changes() {
			for s := 1; s <= 5; s++ {
				a := servers(roomy(c.Voters), roomy(c.Learners))
				got, e := h.make(a, s)
				if e != api.OK {
					continue
				}
				again, _ := h.make(a, s)
				voters, learners := slices.Clone(got.Voters), slices.Clone(got.Learners)
				fill(got.Voters, 99)
				if !slices.Equal(got.Learners, learners) {
					t.Errorf("%s(%v, %d): the lists share memory", h.name, c, s)
				}
				fill(got.Learners, 98)
				if !kept(a.Voters, c.Voters) || !kept(a.Learners, c.Learners) || !conf.Same(again, servers(voters, learners)) {
					t.Errorf("%s(%v, %d): the answer is not the caller's own", h.name, c, s)
				}
				fill(a.Voters, 97)
				fill(a.Learners, 96)
				if !conf.Same(again, servers(voters, learners)) {
					t.Errorf("%s(%v, %d): the answer hangs on what was handed in", h.name, c, s)
				}
			}
		}
	}
}

// R4: nil and empty lists are one, wherever they are handed in.
func TestNilAndEmptyAreOne(t *testing.T) {
	none := []int{}
	for _, list := range [][]int{nil, {1}, {1, 2, 3}, {3, 1, 1}} {
		for _, pair := range [][2]api.Conf{{servers(list, nil), servers(list, none)}, {servers(nil, list), servers(none, list)}} {
			a, b := pair[0], pair[1]
			if conf.May(a) != conf.May(b) || !conf.Same(a, b) || !slices.Equal(conf.Members(a), conf.Members(b)) {
				t.Errorf("%v: nil and empty lists are two", a)
			}
			for _, l := range [][]int{nil, none, {1, 2}} {
				majority(t, b, l, conf.Majority(a, l))
				agreed(t, b, l, conf.Agreed(a, l))
			}
			single(t, b, example(), conf.Single(a, example()))
			for s := 0; s <= 6; s++ {
				for _, h := range changes() {
					first, e := h.make(a, s)
					second, f := h.make(b, s)
					if e != f || !conf.Same(first, second) {
						t.Errorf("%s(%v, %d): nil and empty lists are two", h.name, a, s)
					}
				}
			}
		}
		majority(t, example(), none, false)
		agreed(t, example(), none, 0)
	}
}
