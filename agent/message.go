package agent

import "coxswain/api"

// message is the next one that it sends.
func (a *Agent) message() api.Msg {
	m := api.Msg{Kind: api.MsgBeat, From: machines + a.id, To: a.server()}
	if a.epoch == 0 {
		m.Ctx = a.boot
		m.Cmd = api.Cmd{Op: api.CmdRegister, Node: api.Node{ID: a.id, Cap: a.room, Boot: a.boot}}
		return m
	}
	m.Ctx = a.beats.send(a.clock)
	m.Cmd = api.Cmd{Op: api.CmdBeat, Node: api.Node{ID: a.id, Epoch: a.epoch, Seq: m.Ctx}, Reports: a.reports()}
	return m
}

// server is whom the next message goes to: all in turn, but a leader that it was told of ahead of its turn, once.
func (a *Agent) server() int {
	to := a.sent%a.servers + 1
	if a.hint >= 1 && a.hint <= a.servers {
		to = a.hint
	}
	a.hint = 0
	a.sent++
	return to
}

// reports are of the tasks that it knows, of as many as may be told.
func (a *Agent) reports() []api.Report {
	var out []api.Report
	for _, id := range a.known() {
		if len(out) == api.MaxReports {
			break
		}
		out = append(out, api.Report{Alloc: id, State: a.tasks[id].state})
	}
	return out
}
