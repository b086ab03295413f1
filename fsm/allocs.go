package fsm

import (
	"coxswain/api"
	"coxswain/store"
)

// end gives an allocation a state in which it is over.
func (m *machine) end(at, state int) {
	m.Allocs[at].State = state
	m.evaluate(m.Allocs[at].Job)
}

// lose ends what a node ran in an epoch that is given up.
func (m *machine) lose(node int) {
	for at, a := range m.Allocs {
		if a.Node == node && !store.Over(a) {
			m.end(at, api.AllocLost)
		}
	}
}

// held is the allocations on a node that are not over.
func (m *machine) held(node int) []api.Alloc {
	var out []api.Alloc
	for _, a := range m.Allocs {
		if a.Node == node && !store.Over(a) {
			out = append(out, a)
		}
	}
	return out
}
