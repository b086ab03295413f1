package fsm

import (
	"coxswain/api"
	"coxswain/spec"
	"coxswain/store"
)

func (m *machine) register(c api.Cmd) api.Result {
	if e := spec.Node(c.Node); e != api.OK {
		return refused(e)
	}
	n := api.Node{ID: c.Node.ID, Cap: c.Node.Cap, Up: true, Boot: c.Node.Boot, Epoch: 1}
	if at := store.Node(m.Store, n.ID); at >= 0 {
		was := m.Nodes[at]
		switch {
		case was.Boot > n.Boot || was.Boot == n.Boot && !was.Up:
			return refused(api.ErrOld)
		case was.Boot == n.Boot:
			return done(was.Epoch)
		}
		n.Epoch, n.Drain = was.Epoch+1, was.Drain
	}
	m.Nodes = put(m.Nodes, n, func(n api.Node) int { return n.ID })
	m.lose(n.ID)
	m.roomCame()
	m.evaluateSystem()
	return done(n.Epoch)
}

func (m *machine) beat(c api.Cmd) api.Result {
	if len(c.Reports) > api.MaxReports || !isNumber(c.Node.Seq) {
		return refused(api.ErrArg)
	}
	at, e := m.upNode(c.Node)
	if e != api.OK {
		return refused(e)
	}
	n := &m.Nodes[at]
	if n.Seq >= c.Node.Seq {
		return refused(api.ErrOld)
	}
	n.Seq = c.Node.Seq
	for _, r := range c.Reports {
		m.report(*n, r)
	}
	m.lookAtDeploys()
	return api.Result{Value: n.Epoch, Allocs: m.held(n.ID)}
}

// report takes what a node says of an allocation, unless it is over, or was never so.
func (m *machine) report(n api.Node, r api.Report) {
	at := store.Alloc(m.Store, r.Alloc)
	if at < 0 || !mayReport(n, m.Allocs[at], r.State) {
		return
	}
	if r.State == api.AllocRunning {
		m.begin(at)
		return
	}
	m.end(at, r.State)
	m.roomCame()
}

func mayReport(n api.Node, a api.Alloc, state int) bool {
	switch {
	case a.Node != n.ID || a.Epoch != n.Epoch || store.Over(a) || a.State >= state:
		return false
	case state == api.AllocEnded:
		return a.Stop
	}
	return state >= api.AllocRunning && state < api.AllocEnded
}

// begin lets an allocation run. A service is looked at then, so that a change rolls on, and its deployment's clock begins anew.
func (m *machine) begin(at int) {
	m.Allocs[at].State = api.AllocRunning
	a := m.Allocs[at]
	job := store.Job(m.Store, a.Job)
	if job < 0 || m.Jobs[job].Type != api.JobService {
		return
	}
	m.evaluate(a.Job)
	if d := m.runningDeploy(a.Job, a.Version); d >= 0 {
		m.Deploys[d].Index = m.Index
	}
}

func (m *machine) down(c api.Cmd) api.Result {
	at, e := m.upNode(c.Node)
	if e != api.OK {
		return refused(e)
	}
	n := &m.Nodes[at]
	if n.Seq != c.Node.Seq {
		return refused(api.ErrOld)
	}
	n.Up = false
	n.Epoch++
	m.lose(n.ID)
	m.evaluateSystem()
	return done(0)
}

func (m *machine) drain(c api.Cmd) api.Result {
	at := store.Node(m.Store, c.Node.ID)
	if at < 0 {
		return refused(api.ErrNode)
	}
	m.Nodes[at].Drain = c.Node.Drain
	for _, a := range m.held(c.Node.ID) {
		m.evaluate(a.Job)
	}
	if !c.Node.Drain {
		m.roomCame()
	}
	m.evaluateSystem()
	return done(0)
}

// upNode is the place of a node that is up in the epoch that a command names.
func (m *machine) upNode(n api.Node) (int, api.Errno) {
	at := store.Node(m.Store, n.ID)
	switch {
	case at < 0:
		return 0, api.ErrNode
	case !m.Nodes[at].Up || m.Nodes[at].Epoch != n.Epoch:
		return 0, api.ErrEpoch
	}
	return at, api.OK
}
