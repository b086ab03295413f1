package life_test

import (
	"math/rand"
	"slices"
	"testing"

	"coxswain/api"
)

// member is a node or a deployment of a crowd.
type member struct {
	thing
	rests bool
}

// crowd is the nodes and the deployments of a store that changes little by little; a great calm means few changes.
type crowd struct {
	members [2][]member // nodes, deployments
	calm    int
}

// anyCrowd is one of so few numbers that several are the same, or of one ID, now and then.
func anyCrowd(dice *rand.Rand) *crowd {
	c := &crowd{calm: []int{2, 8, 30, 100}[dice.Intn(4)]}
	for side := range c.members {
		for range dice.Intn(5) {
			c.members[side] = append(c.members[side], anyMember(dice))
		}
	}
	return c
}

func anyMember(dice *rand.Rand) member {
	x := member{thing{1 + dice.Intn(3), 1 + dice.Intn(2), dice.Intn(3)}, dice.Intn(6) == 0}
	if dice.Intn(30) == 0 {
		far := farNumbers()
		x.last = far[dice.Intn(len(far))]
	}
	return x
}

// change is what comes between two Ticks: often nothing.
func (c *crowd) change(dice *rand.Rand) {
	for dice.Intn(c.calm) == 0 {
		list := &c.members[dice.Intn(2)]
		if len(*list) > 9 {
			*list = slices.Delete(*list, 0, 4)
		}
		if len(*list) == 0 || dice.Intn(8) == 0 {
			*list = append(*list, anyMember(dice))
			continue
		}
		at := dice.Intn(len(*list))
		x := &(*list)[at]
		switch dice.Intn(8) {
		case 0:
			x.last++
		case 1:
			x.last--
		case 2:
			x.era++
		case 3:
			x.rests = !x.rests
		case 4:
			*x = anyMember(dice)
		case 5:
			*list = append(*list, *x)
		case 6:
			*list = slices.Delete(*list, at, at+1)
		case 7:
			other := dice.Intn(len(*list))
			(*list)[at], (*list)[other] = (*list)[other], (*list)[at]
		}
	}
}

// store is the crowd as it stands.
func (c *crowd) store() api.Store {
	var s api.Store
	for i, d := range []side{nodes(), deploys()} {
		for _, x := range c.members[i] {
			if x.rests {
				d.rest(&s, x.thing)
			} else {
				d.put(&s, x.thing)
			}
		}
	}
	return s
}

// awake are those of which there is a clock, each once, in the order of the list.
func (c *crowd) awake(side int) []thing {
	var out []thing
	for _, x := range c.members[side] {
		if !x.rests && !slices.Contains(out, x.thing) {
			out = append(out, x.thing)
		}
	}
	return out
}

// model is the chapter, word by word: a clock for each that is there, gone through one by one.
type model [2][]clock

type clock struct {
	thing
	at int
}

func (m *model) lead() { *m = model{} }

func (m *model) tick(c *crowd) []api.Cmd {
	var out []api.Cmd
	for i, d := range []side{nodes(), deploys()} {
		var now []clock
		for _, x := range c.awake(i) {
			k := clock{thing: x}
			for _, ran := range m[i] {
				if ran.thing == x {
					k.at = ran.at + 1
				}
			}
			if k.at == d.end {
				out = append(out, d.cmd(x))
				k.at = d.end - tickRenew
			}
			now = append(now, k)
		}
		m[i] = now
	}
	return out
}

// P16.1, P16.2: long runs of Ticks, and Leads between, against the chapter's words.
func TestRunsAgainstTheModel(t *testing.T) {
	asked := map[int]int{}
	together := 0
	for seed := range int64(600) {
		dice := rand.New(rand.NewSource(seed))
		h, m, c := fresh(t), &model{}, anyCrowd(dice)
		for at := range 600 {
			if dice.Intn(150) == 0 {
				h.Lead()
				m.lead()
			}
			c.change(dice)
			want := m.tick(c)
			if got := h.Tick(c.store()); !alike(got, want) {
				t.Fatalf("seed %d, Tick %d: asks %+v, not %+v", seed, at, got, want)
			}
			kinds := map[int]int{}
			for _, x := range want {
				asked[x.Op]++
				kinds[x.Op]++
			}
			if len(kinds) == 2 {
				together++
			}
		}
	}
	if asked[cmdDown] < 20000 || asked[cmdRevert] < 10000 || together < 1000 {
		t.Errorf("the runs came to too little: %v were asked, %d times both kinds in one Tick", asked, together)
	}
}

// P16.2: likewise, told another way: what there was at the last so many Ticks tells all, and each is asked for when it was there for 20 (40) of them behind the first one, and each third one behind that.
func TestRunsAgainstWhatThereWas(t *testing.T) {
	for seed := range int64(150) {
		dice := rand.New(rand.NewSource(1000 + seed))
		h, c := fresh(t), anyCrowd(dice)
		var were [2][][]thing // Tick by Tick, since the last Lead
		for at := range 300 {
			if dice.Intn(150) == 0 {
				h.Lead()
				were = [2][][]thing{}
			}
			c.change(dice)
			var want []api.Cmd
			for i, d := range []side{nodes(), deploys()} {
				now := c.awake(i)
				for _, x := range now {
					if d.due(stretch(were[i], x)) {
						want = append(want, d.cmd(x))
					}
				}
				were[i] = append(were[i], now)
			}
			if got := h.Tick(c.store()); !alike(got, want) {
				t.Fatalf("seed %d, Tick %d: asks %+v, not %+v", seed, at, got, want)
			}
		}
	}
}

// stretch is at how many of the last Ticks a thing was there, one behind the other.
func stretch(were [][]thing, x thing) int {
	count := 0
	for count < len(were) && slices.Contains(were[len(were)-1-count], x) {
		count++
	}
	return count
}
