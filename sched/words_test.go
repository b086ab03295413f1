package sched_test

import (
	"math/rand"
	"slices"
	"testing"

	"coxswain/api"
	"coxswain/diff"
	"coxswain/fit"
	"coxswain/sched"
)

// words is the plan that the chapter's words ask for, part by part: all that is known of a slot is asked anew, and told behind one another at the end.
func words(s api.Store, id int) api.Plan {
	at := slices.IndexFunc(s.Jobs, func(j api.Job) bool { return j.ID == id })
	if at < 0 {
		return api.Plan{}
	}
	out := api.Plan{Job: id, Version: s.Jobs[at].Version}
	for _, v := range slices.Backward(s.Evals) {
		if v.Job == id {
			out.Index = v.Index
		}
	}
	stops, slots := diff.Diff(s, id)
	out.Stops = stops
	for _, slot := range slots {
		node := wordsNode(s, s.Jobs[at], slot, out.Places)
		out.Blocked = out.Blocked || node == nil
		if node != nil {
			out.Places = append(out.Places, api.Alloc{Job: id, Version: out.Version, Group: slot.Group, Index: slot.Index, Node: node.ID, Epoch: node.Epoch, Ask: s.Jobs[at].Groups[slot.Group].Ask})
		}
	}
	return out
}

// wordsNode is the node for a slot; nil: there is none.
func wordsNode(s api.Store, j api.Job, slot diff.Slot, places []api.Alloc) *api.Node {
	ask := j.Groups[slot.Group].Ask
	id, ok := slot.Index, fit.May(s, places, slot.Index, ask)
	if j.Type != system {
		id, ok = fit.Best(s, places, ask)
	}
	for i, n := range s.Nodes {
		if ok && n.ID == id {
			return &s.Nodes[i]
		}
	}
	return nil
}

// asWords holds it that the chapter's words are told of this job.
func asWords(t *testing.T, s api.Store, id int) api.Plan {
	t.Helper()
	want := words(s, id)
	plan(t, s, id, want)
	return want
}

// P14.1: any stores, against the chapter's words.
func TestAnyStores(t *testing.T) {
	dice := rand.New(rand.NewSource(14))
	var none, stopped, placed, onSystem, blocked, both int
	for range 60000 {
		s := anyStore(dice)
		for id := range 3 {
			p := asWords(t, s, id)
			stopped += len(p.Stops)
			placed += len(p.Places)
			if p.Job == 0 && p.Index == 0 {
				none++
			}
			if at := slices.IndexFunc(s.Jobs, func(j api.Job) bool { return j.ID == id }); at >= 0 && s.Jobs[at].Type == system {
				onSystem += len(p.Places)
			}
			if p.Blocked {
				blocked++
				both += len(p.Places)
			}
		}
		asWords(t, s, anyNumber(dice, 3))
		if t.Failed() {
			return
		}
	}
	if none < 5000 || stopped < 5000 || placed < 5000 || onSystem < 5000 || blocked < 5000 || both < 5000 {
		t.Errorf("only %d without a job, %d to stop, %d placed, %d of them of system jobs, %d blocked with %d placed", none, stopped, placed, onSystem, blocked, both)
	}
}

// P14.1: in any stores no node is filled beyond its Cap by a plan: what the store has there, and all Places, fit; each Place's node takes tasks.
func TestNoNodeIsFilledBeyond(t *testing.T) {
	dice := rand.New(rand.NewSource(141))
	shared := 0
	for range 60000 {
		s := anyStore(dice)
		for id := range 3 {
			places := sched.Plan(s, id).Places
			for i, a := range places {
				before := append(slices.Clone(places[:i]), places[i+1:]...)
				if !fit.May(s, before, a.Node, a.Ask) {
					t.Fatalf("%+v does not fit beside %+v in %+v", a, before, s)
				}
				if slices.ContainsFunc(before, func(b api.Alloc) bool { return b.Node == a.Node }) {
					shared++
				}
			}
		}
	}
	if shared < 10000 {
		t.Errorf("only %d places on a node with others", shared)
	}
}

// P14.1: in any stores each slot is filled at most once, in the order of the slots, and Blocked tells whether one was passed over.
func TestEachSlotOnce(t *testing.T) {
	dice := rand.New(rand.NewSource(142))
	for range 60000 {
		s := anyStore(dice)
		for id := range 3 {
			p := sched.Plan(s, id)
			_, slots := diff.Diff(s, id)
			next := 0
			for _, a := range p.Places {
				for next < len(slots) && slots[next] != (diff.Slot{Group: a.Group, Index: a.Index}) {
					next++
				}
				if next == len(slots) {
					t.Fatalf("%+v are not the slots %v in their order, of %+v", p.Places, slots, s)
				}
				next++
			}
			if p.Blocked != (len(p.Places) < len(slots)) {
				t.Fatalf("Blocked is %v with %d of %d slots filled, of %+v", p.Blocked, len(p.Places), len(slots), s)
			}
		}
	}
}
