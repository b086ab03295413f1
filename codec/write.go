package codec

import "coxswain/api"

// writer keeps a fault to the end, so that a record's function is just its fields, one behind the other.
type writer struct {
	out []byte
	bad bool
}

func (w *writer) done() ([]byte, api.Errno) {
	if w.bad {
		return nil, api.ErrArg
	}
	return w.out, api.OK
}

func (w *writer) number(n int) {
	if n < -api.MaxNumber || n > api.MaxNumber {
		w.bad = true
		return
	}
	u := fold(n)
	for u >= 128 {
		w.out = append(w.out, byte(u%128+128))
		u /= 128
	}
	w.out = append(w.out, byte(u))
}

// fold lays the numbers below 0 between the others, so that small ones of either kind have few bytes.
func fold(n int) int {
	if n < 0 {
		return -2*n - 1
	}
	return 2 * n
}

func (w *writer) truth(t bool) {
	if t {
		w.number(1)
		return
	}
	w.number(0)
}

func (w *writer) bytes(b []byte) {
	if len(b) > maxBytes {
		w.bad = true
		return
	}
	w.number(len(b))
	w.out = append(w.out, b...)
}

func putList[T any](w *writer, list []T, put func(T)) {
	if len(list) > maxList {
		w.bad = true
		return
	}
	w.number(len(list))
	for _, x := range list {
		put(x)
	}
}

func (w *writer) res(x api.Res) {
	w.number(x.CPU)
	w.number(x.Mem)
}

func (w *writer) group(x api.Group) {
	w.number(x.Count)
	w.res(x.Ask)
}

func (w *writer) job(x api.Job) {
	w.number(x.ID)
	w.number(x.Type)
	w.number(x.Priority)
	w.number(x.Parallel)
	putList(w, x.Groups, w.group)
	w.number(x.Version)
	w.truth(x.Stopped)
}

func (w *writer) node(x api.Node) {
	w.number(x.ID)
	w.res(x.Cap)
	w.truth(x.Up)
	w.truth(x.Drain)
	w.number(x.Boot)
	w.number(x.Epoch)
	w.number(x.Seq)
}

func (w *writer) alloc(x api.Alloc) {
	w.number(x.ID)
	w.number(x.Job)
	w.number(x.Version)
	w.number(x.Group)
	w.number(x.Index)
	w.number(x.Node)
	w.number(x.Epoch)
	w.res(x.Ask)
	w.truth(x.Stop)
	w.number(x.State)
}

func (w *writer) eval(x api.Eval) {
	w.number(x.Job)
	w.number(x.Priority)
	w.number(x.State)
	w.number(x.Index)
}

func (w *writer) deploy(x api.Deploy) {
	w.number(x.Job)
	w.number(x.Version)
	w.number(x.State)
	w.number(x.Index)
}

func (w *writer) seen(x api.Seen) {
	w.number(x.Client)
	w.number(x.Req)
	w.result(x.Answer)
}

func (w *writer) store(x api.Store) {
	w.number(x.Index)
	w.number(x.Next)
	putList(w, x.Jobs, w.job)
	putList(w, x.Stable, w.job)
	putList(w, x.Nodes, w.node)
	putList(w, x.Allocs, w.alloc)
	putList(w, x.Evals, w.eval)
	putList(w, x.Deploys, w.deploy)
	putList(w, x.Seen, w.seen)
}

func (w *writer) report(x api.Report) {
	w.number(x.Alloc)
	w.number(x.State)
}

func (w *writer) plan(x api.Plan) {
	w.number(x.Job)
	w.number(x.Version)
	w.number(x.Index)
	putList(w, x.Stops, w.number)
	putList(w, x.Places, w.alloc)
	w.truth(x.Blocked)
}

func (w *writer) cmd(x api.Cmd) {
	w.number(x.Op)
	w.number(x.Client)
	w.number(x.Req)
	w.job(x.Job)
	w.node(x.Node)
	putList(w, x.Reports, w.report)
	w.plan(x.Plan)
	w.conf(x.Conf)
}

func (w *writer) result(x api.Result) {
	w.number(int(x.Code))
	w.number(x.Value)
	putList(w, x.Allocs, w.alloc)
}

func (w *writer) conf(x api.Conf) {
	putList(w, x.Voters, w.number)
	putList(w, x.Learners, w.number)
}

func (w *writer) entry(x api.Entry) {
	w.number(x.Index)
	w.number(x.Term)
	w.cmd(x.Cmd)
}

func (w *writer) snapshot(x api.Snapshot) {
	w.number(x.Index)
	w.number(x.Term)
	w.conf(x.Conf)
	w.bytes(x.Data)
}

func (w *writer) msg(x api.Msg) {
	w.number(x.Kind)
	w.number(x.From)
	w.number(x.To)
	w.number(x.Term)
	w.number(x.Index)
	w.number(x.LogTerm)
	w.number(x.Commit)
	w.truth(x.Reject)
	w.number(x.Ctx)
	w.number(x.Offset)
	w.number(x.Total)
	w.number(x.Hint)
	putList(w, x.Entries, w.entry)
	w.conf(x.Conf)
	w.bytes(x.Data)
	w.cmd(x.Cmd)
	w.result(x.Result)
}
