package agent

import (
	"maps"
	"slices"

	"coxswain/api"
)

// task is an allocation that it knows. The state that it has here stands apart from the one that the store told, for what was told is told again as it came.
type task struct {
	told  api.Alloc // as the store told it first
	state int       // from api.AllocRunning on
}

func (t task) runs() bool { return t.state == api.AllocRunning }

// known are the IDs of the tasks that it knows, rising.
func (a *Agent) known() []int {
	return slices.Sorted(maps.Keys(a.tasks))
}

// run runs what it is told, and forgets what it is not told any more. Each task is worked out from those of before, so of two of one ID the last counts.
func (a *Agent) run(told []api.Alloc) {
	now := map[int]task{}
	for _, x := range told {
		if x.Node == a.id && x.Epoch == a.epoch {
			now[x.ID] = a.follow(x)
		}
	}
	a.tasks = now
}

// follow is what becomes of an allocation that is told: what it knows stays as it was told first, but for its state.
func (a *Agent) follow(told api.Alloc) task {
	t, ok := a.tasks[told.ID]
	if !ok {
		t = task{told: told, state: api.AllocRunning}
	}
	if told.Stop && t.runs() {
		t.state = api.AllocEnded
	}
	return t
}
