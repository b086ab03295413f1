package fsm

import (
	"cmp"
	"slices"

	"coxswain/api"
	"coxswain/spec"
	"coxswain/store"
)

func (m *machine) plan(c api.Cmd) api.Result {
	p := c.Plan
	job, eval := store.Job(m.Store, p.Job), store.Eval(m.Store, p.Job)
	if job < 0 || eval < 0 || m.Jobs[job].Version != p.Version {
		return refused(api.ErrPlan)
	}
	v := &m.Evals[eval]
	if v.State != api.EvalPending || v.Index != p.Index {
		return refused(api.ErrPlan)
	}
	m.stop(p.Job, p.Stops)
	if !m.placeAll(m.Jobs[job], p.Places) {
		v.Index = m.Index
		return api.Result{Code: api.ErrPart, Value: m.Index}
	}
	v.State = api.EvalDone
	if p.Blocked {
		v.State = api.EvalBlocked
	}
	return done(m.Index)
}

// stop says of allocations that they are to end; those of other jobs are none of the plan's.
func (m *machine) stop(job int, ids []int) {
	for _, id := range ids {
		if at := store.Alloc(m.Store, id); at >= 0 && m.Allocs[at].Job == job && !store.Over(m.Allocs[at]) {
			m.Allocs[at].Stop = true
		}
	}
}

// placeAll does the places node by node, and tells whether all were done.
func (m *machine) placeAll(j api.Job, places []api.Alloc) bool {
	rest := slices.Clone(places)
	slices.SortStableFunc(rest, func(a, b api.Alloc) int { return cmp.Compare(a.Node, b.Node) })
	all := true
	for len(rest) > 0 {
		node := rest[0].Node
		count := slices.IndexFunc(rest, func(p api.Alloc) bool { return p.Node != node })
		if count < 0 {
			count = len(rest)
		}
		if !m.placeOn(node, j, rest[:count]) {
			all = false
		}
		rest = rest[count:]
	}
	return all
}

// placeOn does all places on one node, or none: they are tried on a machine that is thrown away if one of them can't be done.
func (m *machine) placeOn(node int, j api.Job, places []api.Alloc) bool {
	at := store.Node(m.Store, node)
	if at < 0 || !m.Nodes[at].Up || m.Nodes[at].Drain || j.Stopped {
		return false
	}
	trial := *m
	trial.Allocs = slices.Clone(m.Allocs)
	for _, p := range places {
		if !trial.mayPlace(m.Nodes[at], j, p) {
			return false
		}
		trial.place(p)
	}
	if !trial.forget(len(trial.Allocs) - api.MaxAllocs) {
		return false
	}
	*m = trial
	return true
}

func (m *machine) mayPlace(n api.Node, j api.Job, p api.Alloc) bool {
	if p.Job != j.ID || p.Version != j.Version || p.Epoch != n.Epoch || p.Group < 0 || p.Group >= len(j.Groups) {
		return false
	}
	g := j.Groups[p.Group]
	return isIndex(j, g, p) && p.Ask == g.Ask &&
		store.Slot(m.Store, j.ID, p.Group, p.Index) < 0 && !m.wasDone(j, p) &&
		spec.Fits(store.Used(m.Store, n.ID), p.Ask, n.Cap)
}

// isIndex tells whether a place's index is one of its group's slots: a system job has one on each node.
func isIndex(j api.Job, g api.Group, p api.Alloc) bool {
	if j.Type == api.JobSystem {
		return p.Index == p.Node
	}
	return p.Index >= 0 && p.Index < g.Count
}

// wasDone tells whether a batch job's task was done in this version already, and is not to be done again.
func (m *machine) wasDone(j api.Job, p api.Alloc) bool {
	return j.Type == api.JobBatch && slices.ContainsFunc(m.Allocs, func(a api.Alloc) bool {
		return a.Job == j.ID && a.Version == j.Version && a.Group == p.Group && a.Index == p.Index && a.State == api.AllocDone
	})
}

func (m *machine) place(p api.Alloc) {
	p.ID, p.Stop, p.State = m.Next, false, api.AllocNew
	m.Allocs = append(m.Allocs, p)
	m.Next++
}

// forget lets so many allocations go, the eldest first, and tells whether there were as many that may go.
func (m *machine) forget(count int) bool {
	if count <= 0 {
		return true
	}
	var ids []int
	for _, a := range m.Allocs {
		if m.mayForget(a) {
			ids = append(ids, a.ID)
		}
	}
	if len(ids) < count {
		return false
	}
	slices.Sort(ids)
	last := ids[count-1]
	m.Allocs = slices.DeleteFunc(m.Allocs, func(a api.Alloc) bool { return a.ID <= last && m.mayForget(a) })
	return true
}

// mayForget tells whether nothing hangs on an allocation any more: it is over, and not what says that a batch job's task is done.
func (m *machine) mayForget(a api.Alloc) bool {
	if !store.Over(a) {
		return false
	}
	at := store.Job(m.Store, a.Job)
	return a.State != api.AllocDone || at < 0 || m.Jobs[at].Type != api.JobBatch || m.Jobs[at].Version != a.Version
}
