package front_test

import (
	"math/rand"
	"reflect"
	"slices"
	"testing"

	"coxswain/api"
	"coxswain/front"
)

// roomy is the same list in new memory, with spare room that is filled with things that would count.
func roomy[T any](list []T, more ...T) []T {
	return append(slices.Clone(list), more...)[:len(list)]
}

// roomyWho is somebody whose lists have spare room in which other things stand.
func roomyWho(n int) front.Who {
	w := who(n)
	c := &w.Cmd
	c.Job.Groups = roomy(c.Job.Groups, api.Group{Count: 77})
	c.Reports = roomy(c.Reports, api.Report{Alloc: 77})
	c.Plan.Stops = roomy(c.Plan.Stops, 77)
	c.Plan.Places = roomy(c.Plan.Places, api.Alloc{ID: 77})
	c.Conf.Voters = roomy(c.Conf.Voters, 77)
	c.Conf.Learners = roomy(c.Conf.Learners, 77)
	return w
}

func roomyResult(n int) api.Result {
	r := result(n)
	r.Allocs = roomy(r.Allocs, alloc(77, allocRunning))
	return r
}

func roomyStore(index int) api.Store {
	s := storeAt(index)
	s.Allocs = roomy(s.Allocs, alloc(77, allocRunning), alloc(78, allocDone))
	return s
}

// spoil writes over every list, its spare room too.
func spoil(lists ...any) {
	for _, list := range lists {
		v := reflect.ValueOf(list)
		v = v.Slice3(0, v.Cap(), v.Cap())
		for i := range v.Len() {
			v.Index(i).SetZero()
		}
	}
}

func spoilWho(w front.Who) {
	c := w.Cmd
	spoil(c.Job.Groups, c.Reports, c.Plan.Stops, c.Plan.Places, c.Conf.Voters, c.Conf.Learners)
}

// whole tells whether two are the same, spare room and all.
func whole(a, b front.Who) bool {
	full := func(w front.Who) front.Who {
		c := &w.Cmd
		c.Job.Groups = c.Job.Groups[:cap(c.Job.Groups)]
		c.Reports = c.Reports[:cap(c.Reports)]
		c.Plan.Stops = c.Plan.Stops[:cap(c.Plan.Stops)]
		c.Plan.Places = c.Plan.Places[:cap(c.Plan.Places)]
		c.Conf.Voters = c.Conf.Voters[:cap(c.Conf.Voters)]
		c.Conf.Learners = c.Conf.Learners[:cap(c.Conf.Learners)]
		return w
	}
	return reflect.DeepEqual(full(a), full(b))
}

// each has somebody wait for each of the three kinds, twice, and tells the answers; touch is called with what was handed in, behind each call.
func each(h hand, touch func(w front.Who, allocs []api.Alloc)) []front.Done {
	for n := range 2 {
		for kind := range 3 {
			w := roomyWho(3*n + kind)
			switch kind {
			case forEntry:
				h.Wait(5, 2, w)
			case forRead:
				h.Read(w)
			case forPass:
				h.Pass(w)
			}
			touch(w, nil)
		}
	}
	e, r := entry(5, 2), roomyResult(1)
	h.Applied(e, r)
	touch(front.Who{Cmd: e.Cmd}, r.Allocs)
	h.Ready(1, 5)
	h.Ready(2, 5)
	s := roomyStore(5)
	h.Reads(s)
	touch(front.Who{}, s.Allocs)
	r = roomyResult(2)
	h.Passed(1, r)
	touch(front.Who{}, r.Allocs)
	r = roomyResult(3)
	h.Passed(2, r)
	touch(front.Who{}, r.Allocs)
	return []front.Done{whose(0, 5, 1), whose(3, 5, 1), sees(1, 5), sees(4, 5), whose(2, 0, 2), whose(5, 0, 3)}
}

// R4: what is handed in stays as it was, its spare room too, in which nobody looks; not even when it is told.
func TestWhatIsHandedInStays(t *testing.T) {
	h := fresh(t)
	var were []front.Who
	var lists [][]api.Alloc
	want := each(h, func(w front.Who, allocs []api.Alloc) {
		were = append(were, w)
		lists = append(lists, allocs)
	})
	for i := range want {
		d, _ := h.Take()
		if !alike(d, want[i]) {
			t.Fatalf("Take: %+v, not %+v", d, want[i])
		}
		spoilWho(d.Who)
		spoil(d.Result.Allocs)
	}
	for n := range 6 {
		if !whole(were[n], roomyWho(n)) {
			t.Fatalf("%+v was handed in, and is %+v", roomyWho(n), were[n])
		}
	}
	if !reflect.DeepEqual(were[6].Cmd, entry(5, 2).Cmd) {
		t.Fatalf("the entry's command is %+v", were[6].Cmd)
	}
	for i, x := range [][]api.Alloc{roomyResult(1).Allocs, roomyStore(5).Allocs, roomyResult(2).Allocs, roomyResult(3).Allocs} {
		got := lists[6+i]
		if !reflect.DeepEqual(got[:cap(got)], x[:cap(x)]) {
			t.Fatalf("%+v was handed in, and is %+v", x[:cap(x)], got[:cap(got)])
		}
	}
}

// R4: what is handed in is not kept: who writes over it behind the call changes no answer.
func TestWhatIsHandedInIsNotKept(t *testing.T) {
	h := fresh(t)
	want := each(h, func(w front.Who, allocs []api.Alloc) {
		spoilWho(w)
		spoil(allocs)
	})
	h.takes(want...)
}

// R4: what is answered is the caller's own: who writes over it, or into its spare room, changes no other answer, be it taken before or behind.
func TestAnswersAreTheCallersOwn(t *testing.T) {
	for spoiled := range 6 {
		h := fresh(t)
		want := each(h, func(front.Who, []api.Alloc) {})
		var got []front.Done
		for i := range want {
			d, ok := h.Take()
			if !ok || !alike(d, want[i]) {
				t.Fatalf("Take: %+v, %v, not %+v", d, ok, want[i])
			}
			if got = append(got, d); i == spoiled {
				spoilWho(d.Who)
				spoil(d.Result.Allocs)
			}
		}
		for i := range want {
			if i != spoiled && !alike(got[i], want[i]) {
				t.Fatalf("behind the spoiling of the answer %d the answer %d is %+v, not %+v", spoiled, i, got[i], want[i])
			}
		}
	}
}

// R4: many that wait for one thing, all the same one: each one's answer is its own.
func TestAnswersOfManyAreTheirOwn(t *testing.T) {
	h := fresh(t)
	for range maxWait {
		h.waits(3, 1, 1)
		ctx, _ := h.Read(who(2))
		h.Ready(ctx, 3)
	}
	h.Applied(entry(3, 1), result(4))
	h.Reads(storeAt(3))
	for i := range 2 * maxWait {
		want := whose(1, 3, 4)
		if i >= maxWait {
			want = sees(2, 3)
		}
		d, ok := h.Take()
		if !ok || !alike(d, want) {
			t.Fatalf("the answer %d is %+v, not %+v", i, d, want)
		}
		spoilWho(d.Who)
		spoil(d.Result.Allocs)
	}
	h.takes()
}

// R4: nil and empty lists are one; R1: neither is any harm.
func TestEmptyLists(t *testing.T) {
	emptyCmd := api.Cmd{Job: api.Job{Groups: []api.Group{}}, Reports: []api.Report{}, Plan: api.Plan{Stops: []int{}, Places: []api.Alloc{}}, Conf: api.Conf{Voters: []int{}, Learners: []int{}}}
	for _, cmd := range []api.Cmd{{}, emptyCmd} {
		for _, allocs := range [][]api.Alloc{nil, {}, roomy(nil, alloc(77, allocRunning))} {
			h := fresh(t)
			w := front.Who{Req: 1, Cmd: cmd}
			h.Wait(1, 1, w)
			h.Read(w)
			h.Pass(w)
			h.len(3)
			h.Applied(api.Entry{Index: 1, Term: 1, Cmd: cmd}, api.Result{Allocs: allocs})
			h.Ready(1, 1)
			h.Reads(api.Store{Index: 1, Allocs: allocs})
			h.Passed(1, api.Result{Allocs: allocs})
			plain := front.Who{Req: 1}
			h.takes(front.Done{Who: plain, Index: 1}, front.Done{Who: plain, Index: 1}, front.Done{Who: plain})
		}
	}
}

// story is all that is answered in a run of any calls, with other runs' calls between.
func story(t *testing.T, seed int64, others int) []any {
	w := anyWalk(t, seed)
	var more []*walk
	for i := range others {
		more = append(more, anyWalk(t, 1000+seed+int64(i)))
	}
	var out []any
	for range 400 {
		w.step()
		out = append(out, w.Len(), w.Full())
		if w.dice.Intn(4) == 0 {
			d, ok := w.Take()
			w.m.take()
			out = append(out, plain(d), ok)
		}
		for _, x := range more {
			x.step()
		}
	}
	return out
}

// R5: who is told the same answers the same, whatever others are told between.
func TestToldTheSameAnswersTheSame(t *testing.T) {
	dice := rand.New(rand.NewSource(18))
	for range 20 {
		seed := dice.Int63n(1000)
		want := story(t, seed, 0)
		for _, others := range []int{0, 1, 3} {
			if got := story(t, seed, others); !reflect.DeepEqual(got, want) {
				t.Fatalf("seed %d, beside %d others: %+v, not %+v", seed, others, got, want)
			}
		}
	}
}
