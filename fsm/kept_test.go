package fsm_test

import (
	"math/rand"
	"reflect"
	"testing"

	"coxswain/api"
	"coxswain/fsm"
)

// commands is one of each Op that is done, or done in part, by the run's store.
func commands(r *run) []api.Cmd {
	part := r.plan(1, at(0, 2, 1), at(0, 3, 2))
	part.Plan.Stops = []int{1, 4}
	whole := part
	whole.Plan.Places = part.Plan.Places[:1]
	return []api.Cmd{
		{Op: cmdNop}, {Op: cmdConf, Conf: api.Conf{Voters: []int{1}, Learners: []int{2}}},
		submit(job(1, service, 2)), by(2, 7, submit(job(5, service, 0, 0))), cancel(1), by(1, 1, cancel(1)), by(3, 1, cancel(77)),
		register(node(3, 1)), register(node(1, 2)), r.says(1, done(1), failed(3), ended(6)), r.says(2, running(7)), r.falls(2),
		drain(1, true), drain(1, false), part, whole, revert(1, r.job(1).Version), {Op: 99},
	}
}

// changed is busy with another version of the service 1, that may be reverted, and something seen.
func changed(t *testing.T) *run {
	r := busy(t)
	r.ok(by(1, 1, submit(job(1, service, 3))))
	if len(r.s.Stable) != 1 {
		t.Fatalf("%+v", r.s)
	}
	return r
}

// R4: a store that is handed in stays as it was, so entries may be applied to it once more, and others; all answer the same each time.
func TestTheStoreHandedInStays(t *testing.T) {
	r := changed(t)
	first := plain(r.s, false)
	for _, c := range commands(r) {
		a, ra := fsm.Apply(r.s, api.Entry{Index: r.s.Index + 1, Cmd: c})
		b, rb := fsm.Apply(r.s, api.Entry{Index: r.s.Index + 1, Cmd: c})
		if !alike(a, b) || !alike(ra, rb) || !alike(r.s, first) {
			t.Fatalf("%+v is done otherwise the second time", c)
		}
		apart(t, r.s, c, a, ra, b, rb)
		for _, d := range commands(r) {
			ahead := plain(a, false)
			fsm.Apply(a, api.Entry{Index: a.Index + 1, Cmd: d})
			if !alike(a, ahead) {
				t.Fatalf("the store behind %+v was changed by %+v", c, d)
			}
		}
	}
}

// R4: what is answered is in memory of its own: nothing that is done to it, or to what was handed in, is seen on the other side.
func TestTheAnswerIsNewMemory(t *testing.T) {
	for i := range commands(changed(t)) {
		r := changed(t)
		c := commands(r)[i]
		x := roomy(api.Entry{Index: r.s.Index + 1, Cmd: c})
		s := roomy(r.s)
		got, answer := fsm.Apply(s, x)
		store, result := plain(got, false), plain(answer, false)
		spoil(&s)
		spoil(&x)
		if !alike(got, store) || !alike(answer, result) {
			t.Fatalf("what is answered to %+v was kept", c)
		}
		spoil(&answer)
		if !alike(got, store) {
			t.Fatalf("the store keeps the answer to %+v", c)
		}
		spoilValue(reflect.ValueOf(&got.Stable).Elem())
		got.Stable = store.Stable
		if !alike(got, store) {
			t.Fatalf("jobs and stable ones share memory behind %+v", c)
		}
	}
}

// spoil writes over all that is behind a pointer, at every depth, and over the spare room of its lists.
func spoil(p any) { spoilValue(reflect.ValueOf(p).Elem()) }

func spoilValue(v reflect.Value) {
	switch v.Kind() {
	case reflect.Struct:
		for i := range v.NumField() {
			spoilValue(v.Field(i))
		}
	case reflect.Slice:
		whole := v.Slice(0, v.Cap())
		for i := range whole.Len() {
			spoilValue(whole.Index(i))
		}
	case reflect.Bool:
		v.SetBool(!v.Bool())
	default:
		v.SetInt(v.Int() + 77)
	}
}

// emptied is the same with an empty list for each that is nil, at every depth.
func emptied[T any](x T) T {
	x = plain(x, false)
	for _, list := range lists(reflect.ValueOf(&x).Elem()) {
		if list.IsNil() {
			list.Set(reflect.MakeSlice(list.Type(), 0, 0))
		}
	}
	return x
}

// R4: nil and empty lists are one, in the store and in the command.
func TestNilAndEmptyAreOne(t *testing.T) {
	r := changed(t)
	for _, s := range []api.Store{fsm.New(), r.s, {}} {
		for _, c := range append(commands(r), api.Cmd{Op: cmdSubmit, Job: job(9, service)}, api.Cmd{Op: cmdPlan}, api.Cmd{Op: cmdBeat}) {
			a, ra := fsm.Apply(plain(s, false), api.Entry{Index: 50, Cmd: plain(c, false)})
			b, rb := fsm.Apply(emptied(s), api.Entry{Index: 50, Cmd: emptied(c)})
			if !alike(a, b) || !alike(ra, rb) {
				t.Fatalf("%+v: nil and empty are two", c)
			}
		}
	}
}

// R1, R2, R6: each number of each command, one by one, the least and the greatest that there are: the answer is the chapter's, and a refusal changes nothing.
func TestFarNumbersInCommands(t *testing.T) {
	first := changed(t)
	for _, c := range commands(first) {
		count := len(lone(reflect.ValueOf(c)))
		for i := range count {
			for _, n := range farNumbers() {
				x := plain(c, false)
				setNumber(lone(reflect.ValueOf(&x).Elem())[i], n)
				r := &run{t: t, s: first.s}
				answer := r.apply(x)
				if answer.Code == ok || answer.Code == errPart {
					continue
				}
				r.s.Index, r.s.Seen = first.s.Index, first.s.Seen
				if !alike(r.s, first.s) || answer.Value != 0 || len(answer.Allocs) != 0 {
					t.Fatalf("%+v was refused: %+v, %+v", x, answer, r.s)
				}
			}
		}
	}
}

// R1: each number of a store, one by one, as no entries make it: no call panics, and what is handed in stays.
func TestFarNumbersInStores(t *testing.T) {
	first := changed(t)
	all := commands(first)
	for i := range lone(reflect.ValueOf(first.s)) {
		for _, n := range farNumbers() {
			s := plain(first.s, false)
			setNumber(lone(reflect.ValueOf(&s).Elem())[i], n)
			was := plain(s, false)
			for _, c := range all {
				got, answer := fsm.Apply(s, api.Entry{Index: 99, Cmd: c})
				if got.Index != 99 {
					t.Fatalf("%+v: %+v", c, got)
				}
				apart(t, got, answer)
			}
			if !reflect.DeepEqual(s, was) {
				t.Fatalf("%+v was changed", was)
			}
		}
	}
}

// anyValue fills in what is behind a value: any numbers, lists of at most so many.
func anyValue(dice *rand.Rand, v reflect.Value, most int) {
	switch v.Kind() {
	case reflect.Struct:
		for i := range v.NumField() {
			anyValue(dice, v.Field(i), most)
		}
	case reflect.Slice:
		parts := dice.Intn(most + 1)
		v.Set(reflect.MakeSlice(v.Type(), parts, parts))
		for i := range parts {
			anyValue(dice, v.Index(i), most)
		}
	case reflect.Bool:
		v.SetBool(dice.Intn(2) == 0)
	default:
		if far := farNumbers(); dice.Intn(16) == 0 {
			v.SetInt(int64(far[dice.Intn(len(far))]))
		} else {
			v.SetInt(int64(dice.Intn(5)))
		}
	}
}

// R1, R4, R5: any stores and any commands at all: no call panics, each answers the same once more, in memory of its own, and what is handed in stays; a refusal changes nothing but the Index, and what was seen.
func TestAnyStoresAndCommands(t *testing.T) {
	dice := rand.New(rand.NewSource(11))
	for range 8000 {
		var s api.Store
		var x api.Entry
		anyValue(dice, reflect.ValueOf(&s).Elem(), 6)
		anyValue(dice, reflect.ValueOf(&x).Elem(), 3)
		x.Cmd.Op = dice.Intn(12)
		if dice.Intn(2) == 0 {
			aim(dice, s, &x.Cmd)
		}
		handed, entry := roomy(s), roomy(x)
		wasStore, wasEntry := plain(handed, true), plain(entry, true)
		got, answer := fsm.Apply(handed, entry)
		if !reflect.DeepEqual(plain(handed, true), wasStore) || !reflect.DeepEqual(plain(entry, true), wasEntry) {
			t.Fatalf("what was handed in was changed: %+v, %+v", s, x)
		}
		apart(t, handed, entry, got, answer)
		again, same := fsm.Apply(plain(s, false), plain(x, false))
		if !alike(got, again) || !alike(answer, same) || got.Index != x.Index {
			t.Fatalf("%+v of %+v is not told the same once more", x, s)
		}
		got.Index, got.Seen = s.Index, s.Seen
		if answer.Code != ok && answer.Code != errPart && !alike(got, s) && x.Cmd.Client == 0 {
			t.Fatalf("%+v of %+v was refused, and did something", x, s)
		}
	}
}

// aim lets a command be for what there is, so that it comes further than to its first question.
func aim(dice *rand.Rand, s api.Store, c *api.Cmd) {
	c.Client = 0
	if len(s.Jobs) > 0 {
		j := s.Jobs[dice.Intn(len(s.Jobs))]
		c.Job.ID, c.Job.Version, c.Plan.Job, c.Plan.Version = j.ID, j.Version, j.ID, j.Version
	}
	for _, v := range s.Evals {
		if v.Job == c.Plan.Job {
			c.Plan.Index = v.Index
			break
		}
	}
	if len(s.Nodes) > 0 {
		n := s.Nodes[dice.Intn(len(s.Nodes))]
		c.Node.ID, c.Node.Epoch, c.Node.Seq = n.ID, n.Epoch, n.Seq
		if c.Op == cmdBeat {
			c.Node.Seq++
		}
	}
	for i := range c.Plan.Places {
		p := &c.Plan.Places[i]
		p.Job, p.Version, p.Node, p.Epoch = c.Plan.Job, c.Plan.Version, c.Node.ID, c.Node.Epoch
	}
	for i := range c.Reports {
		if len(s.Allocs) > 0 {
			c.Reports[i].Alloc = s.Allocs[dice.Intn(len(s.Allocs))].ID
		}
	}
}
