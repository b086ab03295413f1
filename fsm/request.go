package fsm

import (
	"slices"

	"coxswain/api"
)

func isRequest(c api.Cmd) bool {
	switch c.Op {
	case api.CmdSubmit, api.CmdCancel, api.CmdDrain:
		return c.Client != 0
	}
	return false
}

// once does a request, unless it was done already. A refusal is noted too: the same request would else be done later, when its client has its answer.
func (m *machine) once(c api.Cmd, do deed) api.Result {
	if c.Client < 1 || c.Client > api.MaxClients || !isNumber(c.Req) {
		return refused(api.ErrArg)
	}
	if at := slices.IndexFunc(m.Seen, func(x api.Seen) bool { return x.Client == c.Client }); at >= 0 {
		switch last := m.Seen[at]; {
		case last.Req > c.Req:
			return refused(api.ErrOld)
		case last.Req == c.Req:
			return copyResult(last.Answer)
		}
	}
	r := do(m, c)
	seen := api.Seen{Client: c.Client, Req: c.Req, Answer: copyResult(r)}
	m.Seen = put(m.Seen, seen, func(x api.Seen) int { return x.Client })
	return r
}

func copyResult(r api.Result) api.Result {
	r.Allocs = slices.Clone(r.Allocs)
	return r
}
