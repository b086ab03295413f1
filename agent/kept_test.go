package agent_test

import (
	"math/rand"
	"reflect"
	"slices"
	"testing"

	"coxswain/agent"
	"coxswain/api"
	"coxswain/disk"
)

// roomy is the same list in new memory, with spare room that is filled with things that would count.
func roomy[T any](list []T, more ...T) []T {
	return append(slices.Clone(list), more...)[:len(list)]
}

// fullAnswer is an answer to the first beat with a bit of everything, and spare room in which other tasks stand.
func (m machine) fullAnswer() api.Msg {
	x := m.beaten(5, 1, roomy([]api.Alloc{m.task(9, 5), m.task(7, 5), m.task(8, 5), stopped(m.task(7, 5)), m.task(7, 5)}, m.task(77, 5), stopped(m.task(8, 5)))...)
	x.Entries = roomy([]api.Entry{{Index: 1, Cmd: api.Cmd{Reports: []api.Report{{Alloc: 1}}}}}, api.Entry{Index: 2})
	x.Conf = api.Conf{Voters: []int{1, 2}, Learners: []int{3}}
	x.Data = roomy([]byte{1, 2}, 3)
	x.Cmd.Reports = roomy([]api.Report{{Alloc: 7, State: allocDone}}, api.Report{Alloc: 8, State: allocDone})
	x.Cmd.Job.Groups = []api.Group{{Count: 1}}
	return x
}

// R4: what is handed in stays as it was, its spare room too, in which nobody looks.
func TestWhatIsHandedInStays(t *testing.T) {
	m := joined(t)
	m.next(m.beating(2, 5, 1))
	x, was := m.fullAnswer(), m.fullAnswer()
	allocs := x.Result.Allocs
	m.takes(x)
	m.runs(m.task(7, 5), m.task(8, 5), m.task(9, 5))
	m.Exit(8, true)
	m.ticks(20)
	if !reflect.DeepEqual(x, was) || !reflect.DeepEqual(allocs[:cap(allocs)], was.Result.Allocs[:cap(was.Result.Allocs)]) {
		t.Fatalf("a Take changed %+v to %+v", was, x)
	}
}

// R4: what is handed in is not kept: who writes over it behind the Take changes nothing.
func TestWhatIsHandedInIsNotKept(t *testing.T) {
	m := joined(t)
	m.next(m.beating(2, 5, 1))
	x := m.fullAnswer()
	m.takes(x)
	for i := range x.Result.Allocs {
		x.Result.Allocs[i] = api.Alloc{ID: 70 + i, Node: 2, Epoch: 5, State: allocDone}
	}
	m.runs(m.task(7, 5), m.task(8, 5), m.task(9, 5))
	m.next(m.beating(3, 5, 2, report(7, allocRunning), report(8, allocRunning), report(9, allocRunning)))
}

// R4: what is answered is the caller's own: who writes over it, or into its spare room, changes no machine, and no other answer.
func TestAnswersAreTheCallersOwn(t *testing.T) {
	m := joined(t)
	m.next(m.beating(2, 5, 1))
	m.takes(m.fullAnswer())
	want := []api.Alloc{m.task(7, 5), m.task(8, 5), m.task(9, 5)}
	first, second := m.Running(), m.Running()
	for i := range first[:cap(first)] {
		first[:cap(first)][i] = api.Alloc{ID: 99}
	}
	m.runs(want...)
	if !alike(second, want) {
		t.Fatalf("the second answer is %+v", second)
	}
	reports := []api.Report{report(7, allocRunning), report(8, allocRunning), report(9, allocRunning)}
	m.ticks(2)
	sent := m.tick()
	held := sent[:cap(sent)]
	list := sent[0].Cmd.Reports
	for i := range list[:cap(list)] {
		list[:cap(list)][i] = report(99, allocDone)
	}
	for i := range held {
		held[i] = api.Msg{Kind: 99}
	}
	m.runs(want...)
	m.ticks(2)
	sent = m.tick()
	m.Exit(8, true)
	m.ticks(3)
	if !alike(sent, []api.Msg{m.beating(1, 5, 3, reports...)}) {
		t.Fatalf("a message that was sent is %+v now", sent)
	}
}

// R4: nil and empty lists are one.
func TestEmptyLists(t *testing.T) {
	for _, none := range [][]api.Alloc{nil, {}, roomy(nil, api.Alloc{ID: 7, Node: 2, Epoch: 5})} {
		x := told(t)
		x.tell(x.task(7, 5))
		x.tell(none...)
		x.runs()
		x.knows()
	}
}

// R3: beside an error, and at a Tick at which nothing is sent, there is no message.
func TestNothingBesideAnError(t *testing.T) {
	m := joined(t)
	m.ticks(tickLease)
	cut(t, m.disk, 0)
	for range 5 {
		if sent, e := m.Tick(); e != errDisk || len(sent) != 0 {
			t.Fatalf("a Tick: %+v, %v", sent, e)
		}
	}
}

// story is all that a machine answers in a run by chance, with calls of others between.
func story(seed int64, others ...*agent.Agent) []any {
	dice, otherDice := rand.New(rand.NewSource(seed)), rand.New(rand.NewSource(-1-seed))
	d := disk.New()
	a, e := agent.Start(api.Node{ID: 2}, 3, d)
	out := []any{e}
	var last api.Msg
	for range 400 {
		for _, other := range others {
			sent, _ := other.Tick()
			for _, x := range sent {
				other.Take(answerBy(otherDice, x))
			}
		}
		sent, e := a.Tick()
		out = append(out, plain(sent), e)
		for _, x := range sent {
			last = x
		}
		if dice.Intn(3) > 0 {
			out = append(out, a.Take(answerBy(dice, last)))
		}
		out = append(out, a.Exit(dice.Intn(90), dice.Intn(2) == 0), plain(a.Running()), a.Epoch())
	}
	data, e := d.Read("boot")
	return append(out, string(data), e)
}

// answerBy is an answer to a message, with tasks by chance.
func answerBy(dice *rand.Rand, to api.Msg) api.Msg {
	x := api.Msg{Kind: msgBeaten, To: to.From, Ctx: to.Ctx, Cmd: api.Cmd{Op: to.Cmd.Op, Node: to.Cmd.Node}, Result: api.Result{Value: 1 + dice.Intn(9)}, Hint: dice.Intn(4)}
	if dice.Intn(20) == 0 {
		x.Result.Code = errEpoch
	}
	for _, id := range dice.Perm(90)[:dice.Intn(90)] {
		x.Result.Allocs = append(x.Result.Allocs, api.Alloc{ID: id, Node: 2, Epoch: to.Cmd.Node.Epoch, Stop: dice.Intn(9) == 0})
	}
	return x
}

// R5: machines that are told the same do the same, whatever others are told between.
func TestToldTheSameDoesTheSame(t *testing.T) {
	for seed := range int64(10) {
		want := story(seed)
		for range 3 {
			d := disk.New()
			other := starts(t, 2, 3, d).Agent
			same := starts(t, 1, 5, d).Agent // two on one disk, which is not the story's
			if got := story(seed, other, same); !reflect.DeepEqual(got, want) {
				t.Fatalf("seed %d: told the same it did otherwise", seed)
			}
		}
	}
}
