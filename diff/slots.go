package diff

import (
	"iter"
	"slices"

	"coxswain/api"
)

// Slot is a place that a job wants filled.
type Slot struct {
	Group int
	Index int
}

// slotOf is where an allocation stands.
func slotOf(a api.Alloc) Slot { return Slot{Group: a.Group, Index: a.Index} }

// slots tells a job's slots, in their order.
func slots(job api.Job, nodes []api.Node) iter.Seq[Slot] {
	indexes := counted
	if job.Type == api.JobSystem {
		open := openNodes(nodes)
		indexes = func(api.Group) iter.Seq[int] { return slices.Values(open) }
	}
	return func(yield func(slot Slot) bool) {
		if job.Stopped {
			return
		}
		for at, group := range job.Groups {
			for index := range indexes(group) {
				if !yield(Slot{Group: at, Index: index}) {
					return
				}
			}
		}
	}
}

// counted tells a group's indexes, from 0 on.
func counted(group api.Group) iter.Seq[int] {
	return func(yield func(index int) bool) {
		for index := range min(group.Count, api.MaxCount) {
			if !yield(index) {
				return
			}
		}
	}
}

// openNodes are the IDs of the nodes that take tasks, each once.
func openNodes(nodes []api.Node) []int {
	var out []int
	seen := map[int]struct{}{}
	for _, n := range nodes {
		if _, ok := seen[n.ID]; ok || !n.Up || n.Drain {
			continue
		}
		seen[n.ID] = struct{}{}
		out = append(out, n.ID)
	}
	return out
}
