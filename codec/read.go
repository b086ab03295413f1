package codec

import "coxswain/api"

// maxSevens is how many groups of seven bits the greatest number has.
const maxSevens = 6

// reader keeps a fault to the end, as writer does.
type reader struct {
	left []byte
	bad  bool
}

// fail leaves nothing to read, so that whatever is still asked ends at once.
func (r *reader) fail() {
	r.left = nil
	r.bad = true
}

func whole[T any](r *reader, get func() T) (T, bool) {
	x := get()
	if r.bad || len(r.left) > 0 {
		var none T
		return none, false
	}
	return x, true
}

func (r *reader) number() int {
	u := 0
	for i := range min(len(r.left), maxSevens) {
		b := r.left[i]
		u |= int(b%128) << (7 * i)
		if b >= 128 {
			continue
		}
		// A last group of 0 could have been left out: a number would have two forms.
		if u > fold(api.MaxNumber) || b == 0 && i > 0 {
			break
		}
		r.left = r.left[i+1:]
		return unfold(u)
	}
	r.fail()
	return 0
}

// unfold is what fold was given.
func unfold(u int) int {
	if u%2 == 1 {
		return -(u + 1) / 2
	}
	return u / 2
}

func (r *reader) truth() bool {
	n := r.number()
	if n != 0 && n != 1 {
		r.fail()
	}
	return n == 1
}

func (r *reader) count(most int) int {
	n := r.number()
	if n < 0 || n > most {
		r.fail()
		return 0
	}
	return n
}

func (r *reader) bytes() []byte {
	n := r.count(maxBytes)
	if n > len(r.left) {
		r.fail()
		return nil
	}
	b := copyBytes(r.left[:n])
	r.left = r.left[n:]
	return b
}

func getList[T any](r *reader, get func() T) []T {
	var list []T
	for range r.count(maxList) {
		list = append(list, get())
		if r.bad {
			return nil
		}
	}
	return list
}

// In the literals below the calls are done in the order in which they stand, which is that of the fields.

func (r *reader) res() api.Res {
	return api.Res{CPU: r.number(), Mem: r.number()}
}

func (r *reader) group() api.Group {
	return api.Group{Count: r.number(), Ask: r.res()}
}

func (r *reader) job() api.Job {
	return api.Job{
		ID:       r.number(),
		Type:     r.number(),
		Priority: r.number(),
		Parallel: r.number(),
		Groups:   getList(r, r.group),
		Version:  r.number(),
		Stopped:  r.truth(),
	}
}

func (r *reader) node() api.Node {
	return api.Node{
		ID:    r.number(),
		Cap:   r.res(),
		Up:    r.truth(),
		Drain: r.truth(),
		Boot:  r.number(),
		Epoch: r.number(),
		Seq:   r.number(),
	}
}

func (r *reader) alloc() api.Alloc {
	return api.Alloc{
		ID:      r.number(),
		Job:     r.number(),
		Version: r.number(),
		Group:   r.number(),
		Index:   r.number(),
		Node:    r.number(),
		Epoch:   r.number(),
		Ask:     r.res(),
		Stop:    r.truth(),
		State:   r.number(),
	}
}

func (r *reader) eval() api.Eval {
	return api.Eval{Job: r.number(), Priority: r.number(), State: r.number(), Index: r.number()}
}

func (r *reader) deploy() api.Deploy {
	return api.Deploy{Job: r.number(), Version: r.number(), State: r.number(), Index: r.number()}
}

func (r *reader) seen() api.Seen {
	return api.Seen{Client: r.number(), Req: r.number(), Answer: r.result()}
}

func (r *reader) store() api.Store {
	return api.Store{
		Index:   r.number(),
		Next:    r.number(),
		Jobs:    getList(r, r.job),
		Stable:  getList(r, r.job),
		Nodes:   getList(r, r.node),
		Allocs:  getList(r, r.alloc),
		Evals:   getList(r, r.eval),
		Deploys: getList(r, r.deploy),
		Seen:    getList(r, r.seen),
	}
}

func (r *reader) report() api.Report {
	return api.Report{Alloc: r.number(), State: r.number()}
}

func (r *reader) plan() api.Plan {
	return api.Plan{
		Job:     r.number(),
		Version: r.number(),
		Index:   r.number(),
		Stops:   getList(r, r.number),
		Places:  getList(r, r.alloc),
		Blocked: r.truth(),
	}
}

func (r *reader) cmd() api.Cmd {
	return api.Cmd{
		Op:      r.number(),
		Client:  r.number(),
		Req:     r.number(),
		Job:     r.job(),
		Node:    r.node(),
		Reports: getList(r, r.report),
		Plan:    r.plan(),
		Conf:    r.conf(),
	}
}

func (r *reader) result() api.Result {
	return api.Result{Code: api.Errno(r.number()), Value: r.number(), Allocs: getList(r, r.alloc)}
}

func (r *reader) conf() api.Conf {
	return api.Conf{Voters: getList(r, r.number), Learners: getList(r, r.number)}
}

func (r *reader) entry() api.Entry {
	return api.Entry{Index: r.number(), Term: r.number(), Cmd: r.cmd()}
}

func (r *reader) snapshot() api.Snapshot {
	return api.Snapshot{Index: r.number(), Term: r.number(), Conf: r.conf(), Data: r.bytes()}
}

func (r *reader) msg() api.Msg {
	return api.Msg{
		Kind:    r.number(),
		From:    r.number(),
		To:      r.number(),
		Term:    r.number(),
		Index:   r.number(),
		LogTerm: r.number(),
		Commit:  r.number(),
		Reject:  r.truth(),
		Ctx:     r.number(),
		Offset:  r.number(),
		Total:   r.number(),
		Hint:    r.number(),
		Entries: getList(r, r.entry),
		Conf:    r.conf(),
		Data:    r.bytes(),
		Cmd:     r.cmd(),
		Result:  r.result(),
	}
}
