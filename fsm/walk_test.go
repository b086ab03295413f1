package fsm_test

import (
	"math/rand"
	"reflect"
	"testing"

	"coxswain/api"
)

// walker thinks of the next command for a store: mostly one that may be, now and then one with a number of which nobody thought.
type walker struct {
	*rand.Rand
	reqs [5]int
}

func (w *walker) one(n ...int) int { return n[w.Intn(len(n))] }

func (w *walker) next(s api.Store) api.Cmd {
	var c api.Cmd
	switch n := w.Intn(100); {
	case n < 2:
		c.Op = w.one(cmdNop, cmdConf, 0, 11, -1)
	case n < 9:
		c = w.request(submit(w.job()))
	case n < 11:
		c = w.request(cancel(1 + w.Intn(7)))
	case n < 16:
		c = w.register(s)
	case n < 50:
		c = w.beat(s)
	case n < 51:
		c = w.down(s)
	case n < 57:
		c = w.request(drain(1+w.Intn(4), w.Intn(5) == 0))
	case n < 96:
		c = w.plan(s)
	default:
		c = w.revert(s)
	}
	if w.Intn(12) == 0 {
		all := lone(reflect.ValueOf(&c).Elem())
		far := farNumbers()
		setNumber(all[w.Intn(len(all))], w.one(far[w.Intn(len(far))], w.Intn(6)))
	}
	return c
}

// request makes a command somebody's request, or nobody's; a new one, the last one once more, or an old one.
func (w *walker) request(c api.Cmd) api.Cmd {
	c.Client = w.Intn(5)
	w.reqs[c.Client] += w.one(0, 1, 1, 1, 5)
	c.Req = w.reqs[c.Client] - w.one(0, 0, 0, 0, 1)
	return c
}

// job is one of seven, so that there is one too many; its ID tells its type, mostly.
func (w *walker) job() api.Job {
	id := 1 + w.Intn(7)
	kind := []int{service, batch, service, system, batch, service, batch}[id-1]
	if w.Intn(20) == 0 {
		kind = 1 + w.Intn(3)
	}
	j := api.Job{ID: id, Type: kind, Priority: 1 + w.Intn(100), Parallel: 1 + w.Intn(8)}
	for range 1 + w.Intn(2) {
		g := api.Group{Count: w.one(0, 1, 1, 2, 3, 4), Ask: res(w.one(5, 10, 10, 20, 40, 200), w.one(0, 1, 5, 10))}
		if kind == system {
			g.Count = 1
		}
		j.Groups = append(j.Groups, g)
	}
	return j
}

func (w *walker) node(s api.Store) api.Node {
	if len(s.Nodes) == 0 || w.Intn(20) == 0 {
		return api.Node{ID: 1 + w.Intn(4)}
	}
	return s.Nodes[w.Intn(len(s.Nodes))]
}

func (w *walker) register(s api.Store) api.Cmd {
	n := api.Node{ID: 1 + w.Intn(4)}
	for _, is := range s.Nodes {
		if is.ID == n.ID {
			n = is
		}
	}
	n.Boot += w.one(-1, 0, 1, 1, 1, 3)
	if w.Intn(3) == 0 || n.Cap == res(0, 0) {
		n.Cap = res(w.one(50, 100, 150), w.one(20, 50, 80))
	}
	return register(n)
}

func (w *walker) beat(s api.Store) api.Cmd {
	n := w.node(s)
	c := beat(n.ID, n.Epoch, n.Seq+w.one(1, 1, 1, 1, 1, 3, 0))
	for _, a := range s.Allocs {
		if a.State >= allocDone && w.Intn(20) > 0 || a.Node != n.ID && w.Intn(20) > 0 || w.Intn(3) == 0 {
			continue
		}
		state := w.one(allocRunning, allocRunning, allocRunning, allocDone, allocFailed, allocNew, allocLost)
		if a.Stop && w.Intn(3) > 0 {
			state = allocEnded
		}
		c.Reports = append(c.Reports, api.Report{Alloc: a.ID, State: state})
	}
	return c
}

func (w *walker) down(s api.Store) api.Cmd {
	n := w.node(s)
	return down(n.ID, n.Epoch, n.Seq+w.one(0, 0, 0, 1))
}

// plan fills slots of a job that is to be evaluated on any nodes, whether they may be filled or not, and stops any allocations.
func (w *walker) plan(s api.Store) api.Cmd {
	c := api.Cmd{Op: cmdPlan}
	var pending []api.Eval
	for _, v := range s.Evals {
		if v.State == evalPending || w.Intn(30) == 0 {
			pending = append(pending, v)
		}
	}
	if len(pending) == 0 {
		return c
	}
	v := pending[w.Intn(len(pending))]
	j := api.Job{}
	for _, is := range s.Jobs {
		if is.ID == v.Job {
			j = is
		}
	}
	c.Plan = api.Plan{Job: j.ID, Version: j.Version, Index: v.Index, Blocked: w.Intn(3) == 0}
	for _, a := range s.Allocs {
		if a.Job == j.ID && a.Version != j.Version && w.Intn(2) == 0 || w.Intn(100) == 0 {
			c.Plan.Stops = append(c.Plan.Stops, a.ID)
		}
	}
	careful := w.Intn(4) > 0
	for group, g := range j.Groups {
		for index := range max(g.Count, 1) {
			if w.Intn(4) > 0 && !(careful && taken(s, j, group, index)) {
				c.Plan.Places = append(c.Plan.Places, w.place(s, j, group, index, careful))
			}
		}
	}
	w.Shuffle(len(c.Plan.Places), func(a, b int) {
		c.Plan.Places[a], c.Plan.Places[b] = c.Plan.Places[b], c.Plan.Places[a]
	})
	return c
}

func (w *walker) place(s api.Store, j api.Job, group, index int, careful bool) api.Alloc {
	n := w.node(s)
	for tries := 0; careful && (!n.Up || n.Drain) && tries < 5; tries++ {
		n = w.node(s)
	}
	a := api.Alloc{Job: j.ID, Version: j.Version, Group: group, Index: index, Node: n.ID, Epoch: n.Epoch, Ask: j.Groups[group].Ask}
	if j.Type == system {
		a.Index = n.ID
	}
	return a
}

func taken(s api.Store, j api.Job, group, index int) bool {
	for _, a := range s.Allocs {
		if a.Job == j.ID && a.Group == group && a.Index == index && j.Type != system && (a.State < allocDone || a.State == allocDone && j.Type == batch && a.Version == j.Version) {
			return true
		}
	}
	return false
}

func (w *walker) revert(s api.Store) api.Cmd {
	if len(s.Deploys) == 0 {
		return revert(1+w.Intn(7), 1)
	}
	d := s.Deploys[w.Intn(len(s.Deploys))]
	return revert(d.Job, d.Version)
}

// P11.4 to P11.7: long runs of any commands: behind each entry all is as the chapter's words have it (run.apply), no node is filled beyond its capacity, no slot is held twice, what is not over is fenced, and requests are done at most once.
func TestLongRuns(t *testing.T) {
	answers := map[[2]int]int{}
	var forgot, stable, placed int
	for seed := range 12 {
		w := &walker{Rand: rand.New(rand.NewSource(int64(seed)))}
		r := begin(t)
		for range 1500 {
			c := w.next(r.s)
			was := r.s
			answer := r.apply(c)
			answers[[2]int{c.Op, int(answer.Code)}]++
			once(t, was, r.s, c, answer)
			placed += r.s.Next - was.Next
			forgot += len(was.Allocs) + r.s.Next - was.Next - len(r.s.Allocs)
			stable += len(r.s.Stable) - len(was.Stable)
		}
	}
	if placed < 2000 || forgot < 1000 || stable < 20 {
		t.Errorf("%d placed, %d forgotten, %d stable", placed, forgot, stable)
	}
	wanted := map[int][]api.Errno{
		cmdNop: {ok}, cmdConf: {ok}, 11: {errOp}, cmdSubmit: {ok, errArg, errJob, errFull, errOld}, cmdCancel: {ok, errNoJob},
		cmdRegister: {ok, errNode, errOld}, cmdBeat: {ok, errArg, errNode, errEpoch, errOld}, cmdDown: {ok, errNode, errEpoch, errOld},
		cmdDrain: {ok, errNode}, cmdPlan: {ok, errPlan, errPart}, cmdRevert: {ok, errNoJob, errOld},
	}
	for op, codes := range wanted {
		for _, e := range codes {
			if answers[[2]int{op, int(e)}] == 0 {
				t.Errorf("the Op %d was never answered %v", op, e)
			}
		}
	}
}

// once holds P11.6 of a request that comes behind the last one of its client: the same is answered the same, and nothing is done.
func once(t *testing.T, was, is api.Store, c api.Cmd, answer api.Result) {
	t.Helper()
	if c.Client == 0 || c.Op != cmdSubmit && c.Op != cmdCancel && c.Op != cmdDrain {
		return
	}
	for _, seen := range was.Seen {
		if seen.Client != c.Client || seen.Req < c.Req || c.Req < 1 {
			continue
		}
		was.Index = is.Index
		if !alike(was, is) || seen.Req == c.Req && !alike(answer, seen.Answer) || seen.Req > c.Req && answer.Code != errOld {
			t.Fatalf("%+v was done again: %+v", c, answer)
		}
	}
}

// P11.6: a sequence of requests, each of which comes several times, late ones too, ends in the same store but for the numbers of entries as one in which each comes once.
func TestRequestsSeveralTimes(t *testing.T) {
	for seed := range 50 {
		w := &walker{Rand: rand.New(rand.NewSource(int64(seed)))}
		several, single := begin(t), begin(t)
		for _, r := range []*run{several, single} {
			r.ok(register(node(1, 1)), register(node(2, 1)))
		}
		var sent []api.Cmd
		answers := map[[2]int]api.Result{}
		last := [5]int{}
		for range 60 {
			c := []api.Cmd{submit(w.job()), submit(w.job()), cancel(1 + w.Intn(7)), drain(1+w.Intn(3), w.Intn(2) == 0)}[w.Intn(4)]
			client := 1 + w.Intn(4)
			last[client] += 1 + w.Intn(3)
			c = by(client, last[client], c)
			sent = append(sent, c)
			answers[[2]int{client, c.Req}] = single.apply(c)
			if got := several.apply(c); !alike(got, answers[[2]int{client, c.Req}]) {
				t.Fatalf("%+v: %+v", c, got)
			}
			for range w.Intn(4) {
				late := sent[w.Intn(len(sent))]
				want := code(errOld)
				if late.Req == last[late.Client] {
					want = answers[[2]int{late.Client, late.Req}]
				}
				several.does(late, want, nil)
			}
		}
		if !alike(timeless(several.s), timeless(single.s)) {
			t.Fatalf("%+v\nnot\n%+v", several.s, single.s)
		}
	}
}

// timeless is a store without the numbers of entries.
func timeless(s api.Store) api.Store {
	s = plain(s, false)
	s.Index = 0
	for i := range s.Evals {
		s.Evals[i].Index = 0
	}
	for i := range s.Deploys {
		s.Deploys[i].Index = 0
	}
	return s
}
