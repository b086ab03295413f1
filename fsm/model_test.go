package fsm_test

import (
	"maps"
	"slices"

	"coxswain/api"
)

// model is the chapter's words once more: a store in which all stands in maps by its number, so that nothing hangs on where it stands.
type model struct {
	now, next    int
	jobs, stable map[int]api.Job
	nodes        map[int]api.Node
	allocs       map[int]api.Alloc
	evals        map[int]api.Eval
	deploys      map[int]api.Deploy
	seen         map[int]api.Seen
}

func byNumber[T any](list []T, number func(x T) int) map[int]T {
	out := map[int]T{}
	for _, x := range list {
		out[number(x)] = x
	}
	return out
}

func listed[T any](all map[int]T) []T {
	var out []T
	for _, n := range slices.Sorted(maps.Keys(all)) {
		out = append(out, all[n])
	}
	return out
}

func modelOf(s api.Store) *model {
	s = plain(s, false)
	return &model{
		now: s.Index, next: s.Next,
		jobs:    byNumber(s.Jobs, func(x api.Job) int { return x.ID }),
		stable:  byNumber(s.Stable, func(x api.Job) int { return x.ID }),
		nodes:   byNumber(s.Nodes, func(x api.Node) int { return x.ID }),
		allocs:  byNumber(s.Allocs, func(x api.Alloc) int { return x.ID }),
		evals:   byNumber(s.Evals, func(x api.Eval) int { return x.Job }),
		deploys: byNumber(s.Deploys, func(x api.Deploy) int { return x.Job }),
		seen:    byNumber(s.Seen, func(x api.Seen) int { return x.Client }),
	}
}

func (m *model) store() api.Store {
	return api.Store{Index: m.now, Next: m.next, Jobs: listed(m.jobs), Stable: listed(m.stable), Nodes: listed(m.nodes), Allocs: listed(m.allocs), Evals: listed(m.evals), Deploys: listed(m.deploys), Seen: listed(m.seen)}
}

// P11.2.
func (m *model) apply(c api.Cmd) api.Result {
	request := c.Client != 0 && (c.Op == cmdSubmit || c.Op == cmdCancel || c.Op == cmdDrain)
	if !request {
		return m.do(c)
	}
	if c.Client < 1 || c.Client > 4 || c.Req < 1 || c.Req > maxNumber {
		return code(errArg)
	}
	last, there := m.seen[c.Client]
	if there && last.Req > c.Req {
		return code(errOld)
	}
	if there && last.Req == c.Req {
		return last.Answer
	}
	answer := m.do(c)
	m.seen[c.Client] = api.Seen{Client: c.Client, Req: c.Req, Answer: answer}
	return answer
}

// P11.3.
func (m *model) do(c api.Cmd) api.Result {
	switch c.Op {
	case cmdNop, cmdConf:
		return code(ok)
	case cmdSubmit:
		return m.submit(c.Job)
	case cmdCancel:
		return m.cancel(c.Job.ID)
	case cmdRegister:
		return m.register(c.Node)
	case cmdBeat:
		return m.beat(c.Node, c.Reports)
	case cmdDown:
		return m.fall(c.Node)
	case cmdDrain:
		return m.drain(c.Node)
	case cmdPlan:
		return m.plan(c.Plan)
	case cmdRevert:
		return m.revert(c.Job)
	}
	return code(errOp)
}

func (m *model) evaluate(id int) {
	if j, there := m.jobs[id]; there {
		m.evals[id] = api.Eval{Job: id, Priority: j.Priority, State: evalPending, Index: m.now}
	}
}

func (m *model) room() {
	for id, v := range m.evals {
		if v.State != evalDone {
			m.evals[id] = api.Eval{Job: id, Priority: v.Priority, State: evalPending, Index: m.now}
		}
	}
}

func (m *model) systems() {
	for id, j := range m.jobs {
		if j.Type == system && !j.Stopped {
			m.evaluate(id)
		}
	}
}

// deployments: a slot runs if one of its allocations does, for only one can hold it.
func (m *model) deployments() {
	for id, d := range m.deploys {
		j, there := m.jobs[id]
		if d.State != deployRunning || !there || j.Version != d.Version || !m.allRun(j) {
			continue
		}
		d.State = deployDone
		m.deploys[id] = d
		m.stable[id] = plain(j, false)
	}
}

func (m *model) allRun(j api.Job) bool {
	for group, g := range j.Groups {
		for index := range g.Count {
			runs := false
			for _, a := range m.allocs {
				runs = runs || a.Job == j.ID && a.Group == group && a.Index == index && a.Version == j.Version && a.State == allocRunning && !a.Stop
			}
			if !runs && j.Type != system {
				return false
			}
		}
	}
	return true
}

func mayBe(r api.Res) bool {
	return r.CPU >= 0 && r.CPU <= 1<<40 && r.Mem >= 0 && r.Mem <= 1<<40
}

func jobMayBe(j api.Job) bool {
	if j.ID < 1 || j.ID > maxNumber || j.Type < 1 || j.Type > 3 || j.Priority < 1 || j.Priority > 100 || j.Parallel < 1 || j.Parallel > 8 {
		return false
	}
	for _, g := range j.Groups {
		if g.Count < 0 || g.Count > 4 || j.Type == system && g.Count != 1 || !mayBe(g.Ask) {
			return false
		}
	}
	return len(j.Groups) == 1 || len(j.Groups) == 2
}

func (m *model) submit(j api.Job) api.Result {
	was, there := m.jobs[j.ID]
	switch {
	case !jobMayBe(j), there && (was.Type != j.Type || was.Version == maxNumber):
		return code(errJob)
	case !there && len(m.jobs) >= maxJobs:
		return code(errFull)
	}
	j = plain(j, false)
	j.Version, j.Stopped = was.Version+1, false
	m.jobs[j.ID] = j
	if j.Type == service {
		m.deploys[j.ID] = api.Deploy{Job: j.ID, Version: j.Version, State: deployRunning, Index: m.now}
		m.deployments()
	}
	m.evaluate(j.ID)
	return value(j.Version)
}

func (m *model) cancel(id int) api.Result {
	j, there := m.jobs[id]
	if !there {
		return code(errNoJob)
	}
	j.Stopped = true
	m.jobs[id] = j
	if d := m.deploys[id]; d.State == deployRunning {
		d.State = deployFailed
		m.deploys[id] = d
	}
	m.evaluate(id)
	return code(ok)
}

// lose ends all that is not over on a node.
func (m *model) lose(node int) {
	for id, a := range m.allocs {
		if a.Node == node && a.State < allocDone {
			a.State = allocLost
			m.allocs[id] = a
			m.evaluate(a.Job)
		}
	}
}

func (m *model) register(n api.Node) api.Result {
	if n.ID < 1 || n.ID > 4 || !mayBe(n.Cap) || n.Boot < 1 || n.Boot > maxNumber {
		return code(errNode)
	}
	was, there := m.nodes[n.ID]
	if there && (was.Boot > n.Boot || was.Boot == n.Boot && !was.Up) {
		return code(errOld)
	}
	if there && was.Boot == n.Boot {
		return value(was.Epoch)
	}
	m.nodes[n.ID] = api.Node{ID: n.ID, Cap: n.Cap, Up: true, Drain: was.Drain, Boot: n.Boot, Epoch: was.Epoch + 1}
	m.lose(n.ID)
	m.room()
	m.systems()
	return value(was.Epoch + 1)
}

// epoch is what stands against a node's being up in the epoch that is named.
func (m *model) epoch(n api.Node) api.Errno {
	is, there := m.nodes[n.ID]
	switch {
	case !there:
		return errNode
	case !is.Up || is.Epoch != n.Epoch:
		return errEpoch
	}
	return ok
}

func (m *model) beat(n api.Node, reports []api.Report) api.Result {
	if len(reports) > maxReports || n.Seq < 1 || n.Seq > maxNumber {
		return code(errArg)
	}
	if e := m.epoch(n); e != ok {
		return code(e)
	}
	is := m.nodes[n.ID]
	if is.Seq >= n.Seq {
		return code(errOld)
	}
	is.Seq = n.Seq
	m.nodes[n.ID] = is
	for _, report := range reports {
		m.report(is, report)
	}
	m.deployments()
	answer := value(is.Epoch)
	for _, a := range listed(m.allocs) {
		if a.Node == n.ID && a.State < allocDone {
			answer.Allocs = append(answer.Allocs, a)
		}
	}
	return answer
}

func (m *model) report(n api.Node, r api.Report) {
	a, there := m.allocs[r.Alloc]
	if !there || a.Node != n.ID || a.Epoch != n.Epoch || a.State >= allocDone || a.State >= r.State {
		return
	}
	if r.State < allocRunning || r.State > allocEnded || r.State == allocEnded && !a.Stop {
		return
	}
	a.State = r.State
	m.allocs[a.ID] = a
	if a.State >= allocDone {
		m.evaluate(a.Job)
		m.room()
	} else if m.jobs[a.Job].Type == service {
		m.evaluate(a.Job)
		if d := m.deploys[a.Job]; d.State == deployRunning && d.Version == a.Version {
			d.Index = m.now
			m.deploys[a.Job] = d
		}
	}
}

func (m *model) fall(n api.Node) api.Result {
	if e := m.epoch(n); e != ok {
		return code(e)
	}
	is := m.nodes[n.ID]
	if is.Seq != n.Seq {
		return code(errOld)
	}
	is.Up = false
	is.Epoch++
	m.nodes[n.ID] = is
	m.lose(n.ID)
	m.systems()
	return code(ok)
}

func (m *model) drain(n api.Node) api.Result {
	is, there := m.nodes[n.ID]
	if !there {
		return code(errNode)
	}
	is.Drain = n.Drain
	m.nodes[n.ID] = is
	for _, a := range m.allocs {
		if a.Node == n.ID && a.State < allocDone {
			m.evaluate(a.Job)
		}
	}
	if !n.Drain {
		m.room()
	}
	m.systems()
	return code(ok)
}

func (m *model) plan(p api.Plan) api.Result {
	j, there := m.jobs[p.Job]
	v := m.evals[p.Job]
	if !there || j.Version != p.Version || v.State != evalPending || v.Index != p.Index {
		return code(errPlan)
	}
	for _, id := range p.Stops {
		if a, there := m.allocs[id]; there && a.Job == p.Job && a.State < allocDone {
			a.Stop = true
			m.allocs[id] = a
		}
	}
	on := map[int][]api.Alloc{}
	for _, a := range p.Places {
		on[a.Node] = append(on[a.Node], a)
	}
	answer := api.Result{Code: ok, Value: m.now}
	for _, id := range slices.Sorted(maps.Keys(on)) {
		if !m.place(j, id, on[id]) {
			answer.Code = errPart
		}
	}
	switch {
	case answer.Code == errPart:
		v.Index = m.now
	case p.Blocked:
		v.State = evalBlocked
	default:
		v.State = evalDone
	}
	m.evals[p.Job] = v
	return answer
}

// place does a node's places on a copy of the allocations, which is kept only if all of them were done.
func (m *model) place(j api.Job, id int, places []api.Alloc) bool {
	n, there := m.nodes[id]
	if !there || !n.Up || n.Drain || j.Stopped {
		return false
	}
	allocs, next := maps.Clone(m.allocs), m.next
	for _, a := range places {
		if !mayStand(allocs, j, n, a) {
			return false
		}
		allocs[next] = api.Alloc{ID: next, Job: a.Job, Version: a.Version, Group: a.Group, Index: a.Index, Node: a.Node, Epoch: a.Epoch, Ask: a.Ask, State: allocNew}
		next++
	}
	for _, a := range listed(allocs) {
		is := m.jobs[a.Job]
		kept := a.State == allocDone && is.Type == batch && is.Version == a.Version
		if len(allocs) > maxAllocs && a.State >= allocDone && !kept {
			delete(allocs, a.ID)
		}
	}
	if len(allocs) > maxAllocs {
		return false
	}
	m.allocs, m.next = allocs, next
	return true
}

func mayStand(allocs map[int]api.Alloc, j api.Job, n api.Node, a api.Alloc) bool {
	if a.Job != j.ID || a.Version != j.Version || a.Epoch != n.Epoch || a.Group < 0 || a.Group >= len(j.Groups) {
		return false
	}
	g := j.Groups[a.Group]
	if a.Ask != g.Ask || j.Type == system && a.Index != a.Node || j.Type != system && (a.Index < 0 || a.Index >= g.Count) {
		return false
	}
	sum := a.Ask
	for _, b := range allocs {
		same := b.Job == a.Job && b.Group == a.Group && b.Index == a.Index
		if same && b.State < allocDone || same && j.Type == batch && b.Version == a.Version && b.State == allocDone {
			return false
		}
		if b.Node == n.ID && b.State < allocDone {
			sum = res(sum.CPU+b.Ask.CPU, sum.Mem+b.Ask.Mem)
		}
	}
	return sum.CPU <= n.Cap.CPU && sum.Mem <= n.Cap.Mem
}

func (m *model) revert(want api.Job) api.Result {
	j, there := m.jobs[want.ID]
	if !there {
		return code(errNoJob)
	}
	d := m.deploys[j.ID]
	if j.Version != want.Version || d.State != deployRunning || d.Version != want.Version {
		return code(errOld)
	}
	back, there := m.stable[j.ID]
	differs := there && (back.Type != j.Type || back.Priority != j.Priority || back.Parallel != j.Parallel || !slices.Equal(back.Groups, j.Groups))
	if differs && j.Version+1 > maxNumber {
		return code(errOld)
	}
	d.State = deployFailed
	m.deploys[j.ID] = d
	if differs {
		back = plain(back, false)
		back.Version, back.Stopped = j.Version+1, false
		m.jobs[j.ID] = back
		m.deploys[j.ID] = api.Deploy{Job: j.ID, Version: back.Version, State: deployRunning, Index: m.now}
		m.deployments()
	}
	m.evaluate(j.ID)
	return value(m.jobs[j.ID].Version)
}
