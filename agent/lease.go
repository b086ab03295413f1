package agent

import "coxswain/api"

// beats are those that were sent in an epoch, counted from 1.
type beats struct {
	sent  int
	taken int    // the last one whose answer was taken
	ticks [8]int // at which the last ones were sent; gone round
}

// send counts a beat, and notes its tick.
func (b *beats) send(tick int) int {
	b.sent++
	b.ticks[b.sent%len(b.ticks)] = tick
	return b.sent
}

// take tells at which tick a beat was sent; false: it is none that is remembered, or comes too late.
func (b *beats) take(beat int) (int, bool) {
	if beat > b.sent || beat <= b.sent-len(b.ticks) || beat <= b.taken {
		return 0, false
	}
	b.taken = beat
	return b.ticks[beat%len(b.ticks)], true
}

// keepUp is what is due at a tick ahead of any message: the end of its lease, or a boot that could not be done.
func (a *Agent) keepUp() api.Errno {
	switch {
	case a.epoch != 0 && a.clock > a.lease:
		return a.giveUp()
	case a.boot == 0:
		return a.begin()
	}
	return api.OK
}

// register takes the answer to its registering, if it is that.
func (a *Agent) register(m api.Msg) {
	if m.Result.Code != api.OK || m.Result.Value <= 0 || m.Ctx != a.boot || m.Cmd.Op != api.CmdRegister {
		return
	}
	a.epoch, a.lease, a.beats = m.Result.Value, a.clock+api.TickLease, beats{}
}

// renew takes the answer to a beat. The lease goes from the tick on at which the beat was sent, for nobody can tell how long the answer was under way.
func (a *Agent) renew(beat int, told []api.Alloc) {
	tick, ok := a.beats.take(beat)
	if !ok {
		return
	}
	a.lease = max(a.lease, tick+api.TickLease)
	if a.clock <= a.lease {
		a.run(told)
	}
}
