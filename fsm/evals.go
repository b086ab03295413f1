package fsm

import (
	"coxswain/api"
	"coxswain/store"
)

// evaluate says that a job is to be evaluated.
func (m *machine) evaluate(job int) {
	at := store.Job(m.Store, job)
	if at < 0 {
		return
	}
	eval := api.Eval{Job: job, Priority: m.Jobs[at].Priority, State: api.EvalPending, Index: m.Index}
	m.Evals = put(m.Evals, eval, func(v api.Eval) int { return v.Job })
}

// evaluateSystem is called when the nodes change, for they are the slots of system jobs.
func (m *machine) evaluateSystem() {
	for _, j := range m.Jobs {
		if j.Type == api.JobSystem && !j.Stopped {
			m.evaluate(j.ID)
		}
	}
}

// roomCame has all evaluated for which there was no room, and those, too, of which a plan may be under way that was made on less room: with another Index it comes too late.
func (m *machine) roomCame() {
	for i := range m.Evals {
		v := &m.Evals[i]
		if v.State == api.EvalBlocked || v.State == api.EvalPending {
			v.State, v.Index = api.EvalPending, m.Index
		}
	}
}
