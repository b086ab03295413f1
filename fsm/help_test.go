package fsm_test

import (
	"math"
	"reflect"
	"testing"

	"coxswain/api"
	"coxswain/fsm"
)

// The numbers of the document, said once more, so that the tests do not lean on the names.
const (
	ok       = api.Errno(0)
	errArg   = api.Errno(1)
	errFull  = api.Errno(2)
	errJob   = api.Errno(30)
	errNode  = api.Errno(31)
	errEpoch = api.Errno(32)
	errOld   = api.Errno(33)
	errPlan  = api.Errno(34)
	errPart  = api.Errno(35)
	errNoJob = api.Errno(36)
	errOp    = api.Errno(50)

	cmdNop      = 1
	cmdConf     = 2
	cmdSubmit   = 3
	cmdCancel   = 4
	cmdRegister = 5
	cmdBeat     = 6
	cmdDown     = 7
	cmdDrain    = 8
	cmdPlan     = 9
	cmdRevert   = 10

	service = 1
	batch   = 2
	system  = 3

	allocNew     = 1
	allocRunning = 2
	allocDone    = 3
	allocFailed  = 4
	allocEnded   = 5
	allocLost    = 6

	evalPending = 1
	evalBlocked = 2
	evalDone    = 3

	deployRunning = 1
	deployDone    = 2
	deployFailed  = 3

	maxNumber  = 1 << 40
	maxJobs    = 6
	maxAllocs  = 64
	maxReports = 64
)

func res(cpu, mem int) api.Res { return api.Res{CPU: cpu, Mem: mem} }

// job is one whose tasks ask (10, 5) each.
func job(id, kind int, counts ...int) api.Job {
	j := api.Job{ID: id, Type: kind, Priority: 50, Parallel: 1}
	for _, n := range counts {
		j.Groups = append(j.Groups, api.Group{Count: n, Ask: res(10, 5)})
	}
	return j
}

func node(id, boot int) api.Node { return api.Node{ID: id, Cap: res(100, 50), Boot: boot} }

func submit(j api.Job) api.Cmd { return api.Cmd{Op: cmdSubmit, Job: j} }

func cancel(id int) api.Cmd { return api.Cmd{Op: cmdCancel, Job: api.Job{ID: id}} }

func register(n api.Node) api.Cmd { return api.Cmd{Op: cmdRegister, Node: n} }

func beat(id, epoch, seq int, reports ...api.Report) api.Cmd {
	return api.Cmd{Op: cmdBeat, Node: api.Node{ID: id, Epoch: epoch, Seq: seq}, Reports: reports}
}

func down(id, epoch, seq int) api.Cmd {
	return api.Cmd{Op: cmdDown, Node: api.Node{ID: id, Epoch: epoch, Seq: seq}}
}

func drain(id int, on bool) api.Cmd {
	return api.Cmd{Op: cmdDrain, Node: api.Node{ID: id, Drain: on}}
}

func revert(id, version int) api.Cmd {
	return api.Cmd{Op: cmdRevert, Job: api.Job{ID: id, Version: version}}
}

// by is a command as a client's request.
func by(client, req int, c api.Cmd) api.Cmd {
	c.Client, c.Req = client, req
	return c
}

// at is a place in a slot on a node; the rest is filled in by run.plan.
func at(group, index, node int) api.Alloc {
	return api.Alloc{Group: group, Index: index, Node: node}
}

func code(e api.Errno) api.Result { return api.Result{Code: e} }

func value(n int) api.Result { return api.Result{Value: n} }

// run is a store to which entries are applied, one behind the other.
type run struct {
	t    testing.TB
	s    api.Store
	made bool // the store was changed by hand: what follows (P11.4, P11.5, P11.7) need not hold
}

func begin(t testing.TB) *run { return &run{t: t, s: fsm.New()} }

// apply applies the next entry, and asks all that holds of every call: the answer's memory is its own, what was handed in stays, and the model of the chapter's words answers the same.
func (r *run) apply(c api.Cmd) api.Result {
	r.t.Helper()
	s, x := roomy(r.s), roomy(api.Entry{Index: r.s.Index + 1, Term: 3, Cmd: c})
	wasStore, wasEntry := plain(s, true), plain(x, true)
	got, result := fsm.Apply(s, x)
	if !reflect.DeepEqual(plain(s, true), wasStore) || !reflect.DeepEqual(plain(x, true), wasEntry) {
		r.t.Fatalf("what was handed in was changed by %+v", c)
	}
	apart(r.t, s, x, got, result)
	m := modelOf(r.s)
	m.now = x.Index
	answer := m.apply(c)
	if !alike(result, answer) || !alike(got, m.store()) {
		r.t.Fatalf("%+v of %+v:\n%+v, %+v\nnot, as the chapter says,\n%+v, %+v", c, r.s, result, got, answer, m.store())
	}
	rising(r.t, got)
	if !r.made {
		follows(r.t, got)
	}
	r.s = got
	return result
}

// does applies a command and holds the answer and the whole store against what they must be: what there was, with the change.
func (r *run) does(c api.Cmd, want api.Result, change func(s *api.Store)) {
	r.t.Helper()
	expect := plain(r.s, false)
	expect.Index++
	if change != nil {
		change(&expect)
	}
	if got := r.apply(c); !alike(got, want) {
		r.t.Fatalf("%+v: %+v; not %+v", c, got, want)
	}
	if !alike(r.s, expect) {
		r.t.Fatalf("%+v: behind it\n%+v\nnot\n%+v", c, r.s, expect)
	}
}

// refuses holds that a command is refused and changes nothing but the Index.
func (r *run) refuses(c api.Cmd, e api.Errno) {
	r.t.Helper()
	r.does(c, code(e), nil)
}

// ok applies commands that must not be refused. What hangs on the store as it stands, as a plan does, goes into an ok of its own.
func (r *run) ok(commands ...api.Cmd) *run {
	r.t.Helper()
	for _, c := range commands {
		if got := r.apply(c); got.Code != ok {
			r.t.Fatalf("%+v: %v", c, got.Code)
		}
	}
	return r
}

// plan is a plan for a job as it stands.
func (r *run) plan(job int, places ...api.Alloc) api.Cmd {
	r.t.Helper()
	j, v := r.job(job), r.eval(job)
	p := api.Plan{Job: job, Version: j.Version, Index: v.Index}
	for _, a := range places {
		a.Job, a.Version, a.Epoch, a.Ask = job, j.Version, r.node(a.Node).Epoch, j.Groups[a.Group].Ask
		p.Places = append(p.Places, a)
	}
	return api.Cmd{Op: cmdPlan, Plan: p}
}

// stops is a plan for a job as it stands that only stops.
func (r *run) stops(job int, ids ...int) api.Cmd {
	r.t.Helper()
	c := r.plan(job)
	c.Plan.Stops = ids
	return c
}

// says is a node's next beat.
func (r *run) says(id int, reports ...api.Report) api.Cmd {
	n := r.node(id)
	return beat(id, n.Epoch, n.Seq+1, reports...)
}

// falls is what gives a node up.
func (r *run) falls(id int) api.Cmd {
	n := r.node(id)
	return down(id, n.Epoch, n.Seq)
}

// block brings a job's evaluation to blocked.
func (r *run) block(job int) {
	r.t.Helper()
	c := r.plan(job)
	c.Plan.Blocked = true
	r.ok(c)
}

// byHand changes the store as no entries could, or not soon.
func (r *run) byHand(change func(s *api.Store)) {
	r.s = plain(r.s, false)
	r.made = true
	change(&r.s)
}

func (r *run) job(id int) *api.Job       { return jobIn(r.t, &r.s, id) }
func (r *run) node(id int) *api.Node     { return nodeIn(r.t, &r.s, id) }
func (r *run) alloc(id int) *api.Alloc   { return allocIn(r.t, &r.s, id) }
func (r *run) eval(job int) *api.Eval    { return evalIn(r.t, &r.s, job) }
func (r *run) deploy(id int) *api.Deploy { return deployIn(r.t, &r.s, id) }

func pick[T any](t testing.TB, list []T, is func(x T) bool) *T {
	t.Helper()
	for i := range list {
		if is(list[i]) {
			return &list[i]
		}
	}
	t.Fatalf("no such one: %+v", list)
	return nil
}

func jobIn(t testing.TB, s *api.Store, id int) *api.Job {
	t.Helper()
	return pick(t, s.Jobs, func(x api.Job) bool { return x.ID == id })
}

func nodeIn(t testing.TB, s *api.Store, id int) *api.Node {
	t.Helper()
	return pick(t, s.Nodes, func(x api.Node) bool { return x.ID == id })
}

func allocIn(t testing.TB, s *api.Store, id int) *api.Alloc {
	t.Helper()
	return pick(t, s.Allocs, func(x api.Alloc) bool { return x.ID == id })
}

func evalIn(t testing.TB, s *api.Store, job int) *api.Eval {
	t.Helper()
	return pick(t, s.Evals, func(x api.Eval) bool { return x.Job == job })
}

func deployIn(t testing.TB, s *api.Store, job int) *api.Deploy {
	t.Helper()
	return pick(t, s.Deploys, func(x api.Deploy) bool { return x.Job == job })
}

// pending makes the evaluations of these jobs pending as of now.
func (r *run) pending(s *api.Store, jobs ...int) {
	r.t.Helper()
	for _, id := range jobs {
		v := evalIn(r.t, s, id)
		v.State, v.Index = evalPending, s.Index
	}
}

// end gives allocations a state.
func (r *run) end(s *api.Store, state int, ids ...int) {
	r.t.Helper()
	for _, id := range ids {
		allocIn(r.t, s, id).State = state
	}
}

// rising holds that all lists rise.
func rising(t testing.TB, s api.Store) {
	t.Helper()
	rises(t, "Jobs", s.Jobs, func(x api.Job) int { return x.ID })
	rises(t, "Stable", s.Stable, func(x api.Job) int { return x.ID })
	rises(t, "Nodes", s.Nodes, func(x api.Node) int { return x.ID })
	rises(t, "Allocs", s.Allocs, func(x api.Alloc) int { return x.ID })
	rises(t, "Evals", s.Evals, func(x api.Eval) int { return x.Job })
	rises(t, "Deploys", s.Deploys, func(x api.Deploy) int { return x.Job })
	rises(t, "Seen", s.Seen, func(x api.Seen) int { return x.Client })
}

func rises[T any](t testing.TB, name string, list []T, number func(x T) int) {
	t.Helper()
	for i := 1; i < len(list); i++ {
		if number(list[i-1]) >= number(list[i]) {
			t.Fatalf("%s do not rise: %+v", name, list)
		}
	}
}

// follows holds P11.4, P11.5 and P11.7, by the test's own words.
func follows(t testing.TB, s api.Store) {
	t.Helper()
	used := map[int]api.Res{}
	holder := map[[3]int]int{}
	for _, a := range s.Allocs {
		if a.State >= allocDone {
			continue
		}
		sum := used[a.Node]
		used[a.Node] = res(sum.CPU+a.Ask.CPU, sum.Mem+a.Ask.Mem)
		slot := [3]int{a.Job, a.Group, a.Index}
		if other := holder[slot]; other != 0 {
			t.Fatalf("P11.5: %d and %d hold %v", other, a.ID, slot)
		}
		holder[slot] = a.ID
		if n := nodeIn(t, &s, a.Node); !n.Up || n.Epoch != a.Epoch {
			t.Fatalf("P11.7: %+v on %+v", a, n)
		}
	}
	for _, n := range s.Nodes {
		if sum := used[n.ID]; sum.CPU > n.Cap.CPU || sum.Mem > n.Cap.Mem {
			t.Fatalf("P11.4: %v is used on %+v", sum, n)
		}
	}
	if len(s.Allocs) > maxAllocs || len(s.Jobs) > maxJobs {
		t.Fatalf("%d allocations, %d jobs", len(s.Allocs), len(s.Jobs))
	}
}

// apart holds that no two lists behind these values share memory, their spare room neither.
func apart(t testing.TB, values ...any) {
	t.Helper()
	type stretch struct{ from, to uintptr }
	var all []stretch
	for _, v := range values {
		for _, list := range lists(reflect.ValueOf(v)) {
			if list.Cap() > 0 {
				from := list.Pointer()
				all = append(all, stretch{from, from + uintptr(list.Cap())*list.Type().Elem().Size()})
			}
		}
	}
	for i, a := range all {
		for _, b := range all[:i] {
			if a.from < b.to && b.from < a.to {
				t.Fatalf("two lists share memory: %+v", values)
			}
		}
	}
}

// lists are all lists behind a value, at every depth.
func lists(v reflect.Value) []reflect.Value {
	var out []reflect.Value
	switch v.Kind() {
	case reflect.Struct:
		for i := range v.NumField() {
			out = append(out, lists(v.Field(i))...)
		}
	case reflect.Slice:
		out = append(out, v)
		for i := range v.Len() {
			out = append(out, lists(v.Index(i))...)
		}
	}
	return out
}

// lone are all numbers and truths behind a value, at every depth.
func lone(v reflect.Value) []reflect.Value {
	var out []reflect.Value
	switch v.Kind() {
	case reflect.Struct:
		for i := range v.NumField() {
			out = append(out, lone(v.Field(i))...)
		}
	case reflect.Slice:
		for i := range v.Len() {
			out = append(out, lone(v.Index(i))...)
		}
	default:
		out = append(out, v)
	}
	return out
}

// plain is a copy in which no list is empty but nil; with room, the lists' spare room is a part of them.
func plain[T any](x T, room bool) T {
	var out T
	plainInto(reflect.ValueOf(&out).Elem(), reflect.ValueOf(x), room)
	return out
}

func plainInto(out, from reflect.Value, room bool) {
	switch from.Kind() {
	case reflect.Struct:
		for i := range from.NumField() {
			plainInto(out.Field(i), from.Field(i), room)
		}
	case reflect.Slice:
		if room {
			from = from.Slice(0, from.Cap())
		}
		if from.Len() > 0 {
			out.Set(reflect.MakeSlice(from.Type(), from.Len(), from.Len()))
		}
		for i := range from.Len() {
			plainInto(out.Index(i), from.Index(i), room)
		}
	default:
		out.Set(from)
	}
}

// alike takes lists of none and no lists as one, at every depth.
func alike[T any](a, b T) bool {
	return reflect.DeepEqual(plain(a, false), plain(b, false))
}

// roomy is the same in new memory, with spare room behind each of its lists that is filled.
func roomy[T any](x T) T {
	var out T
	roomyInto(reflect.ValueOf(&out).Elem(), reflect.ValueOf(x))
	return out
}

func roomyInto(out, from reflect.Value) {
	switch from.Kind() {
	case reflect.Struct:
		for i := range from.NumField() {
			roomyInto(out.Field(i), from.Field(i))
		}
	case reflect.Slice:
		whole := reflect.MakeSlice(from.Type(), from.Len()+2, from.Len()+2)
		for i := range from.Len() {
			roomyInto(whole.Index(i), from.Index(i))
		}
		for i := from.Len(); i < whole.Len(); i++ {
			for n, v := range lone(whole.Index(i)) {
				setNumber(v, 5000+n)
			}
		}
		out.Set(whole.Slice(0, from.Len()))
	default:
		out.Set(from)
	}
}

func setNumber(v reflect.Value, n int) {
	if v.Kind() == reflect.Bool {
		v.SetBool(n%2 == 0)
		return
	}
	if v.Kind() == reflect.Uint8 {
		v.SetUint(uint64(n) & 255)
		return
	}
	v.SetInt(int64(n))
}

// farNumbers are the least and the greatest of the type, those beside what may be, and those that are small when they are cut to fewer bits.
func farNumbers() []int {
	out := []int{math.MinInt, math.MinInt + 1, -maxNumber, -2, -1, 0, 1, 2, maxNumber - 1, maxNumber, maxNumber + 1, 1<<60 - 1, 1 << 60, 1<<60 + 1, 1 << 62, math.MaxInt - 1, math.MaxInt}
	for _, bits := range []int{8, 16, 32} {
		out = append(out, 1<<bits, 1<<bits+1, 1<<bits+2, 1-1<<bits)
	}
	return out
}
