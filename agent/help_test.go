package agent_test

import (
	"math"
	"reflect"
	"strconv"
	"testing"

	"coxswain/agent"
	"coxswain/api"
	"coxswain/disk"
)

// The numbers of the document, said once more, so that the tests do not lean on the names.
const (
	msgBeat   = 9
	msgBeaten = 10

	cmdRegister = 5
	cmdBeat     = 6

	allocNew     = 1
	allocRunning = 2
	allocDone    = 3
	allocFailed  = 4
	allocEnded   = 5
	allocLost    = 6

	errArg     = api.Errno(1)
	errFull    = api.Errno(2)
	errDisk    = api.Errno(11)
	errCorrupt = api.Errno(13)
	errLeader  = api.Errno(20)
	errNode    = api.Errno(31)
	errEpoch   = api.Errno(32)
	errOld     = api.Errno(33)

	tickLease  = 8
	tickRenew  = 3
	maxReports = 64
	maxNumber  = 1 << 40
)

// machine is a client's machine, as it is asked by a test.
type machine struct {
	*testing.T
	*agent.Agent
	disk *disk.Disk
	id   int
}

// room is the Cap of a machine of a test.
func room(id int) api.Res { return api.Res{CPU: 100 * id, Mem: 50 + id} }

// starts is a machine that a disk lets start.
func starts(t *testing.T, id, servers int, d *disk.Disk) machine {
	t.Helper()
	a, e := agent.Start(api.Node{ID: id, Cap: room(id)}, servers, d)
	if e != api.OK || a == nil {
		t.Fatalf("Start: %v, %v", a, e)
	}
	return machine{t, a, d, id}
}

// fresh is the machine 2 of three servers, on a new disk.
func fresh(t *testing.T) machine {
	t.Helper()
	return starts(t, 2, 3, disk.New())
}

// joined is one that was registered under the epoch 5 at its clock's tick 3; a message was sent.
func joined(t *testing.T) machine {
	t.Helper()
	m := fresh(t)
	m.joins(1, 5)
	return m
}

// joins registers a machine that is not, at the next tick at which it sends.
func (m machine) joins(boot, epoch int) {
	m.Helper()
	for range tickRenew {
		if sent := m.tick(); len(sent) == 1 {
			m.takes(m.registered(boot, epoch))
			m.has(epoch)
			return
		}
	}
	m.Fatal("it sends nothing")
}

// tick is a Tick that is not refused: what it sends.
func (m machine) tick() []api.Msg {
	m.Helper()
	sent, e := m.Tick()
	if e != api.OK {
		m.Fatalf("Tick: %v", e)
	}
	return sent
}

// silent holds it that so many Ticks send nothing.
func (m machine) silent(count int) {
	m.Helper()
	for range count {
		if sent := m.tick(); len(sent) != 0 {
			m.Fatalf("a Tick sends %+v, not nothing", sent)
		}
	}
}

// sends holds it that a Tick sends just this.
func (m machine) sends(want api.Msg) {
	m.Helper()
	if sent := m.tick(); !alike(sent, []api.Msg{want}) {
		m.Fatalf("a Tick sends %+v, not %+v", sent, want)
	}
}

// next holds it that the next two Ticks send nothing, and the third one this.
func (m machine) next(want api.Msg) {
	m.Helper()
	m.silent(tickRenew - 1)
	m.sends(want)
}

// ticks are so many, whatever they send.
func (m machine) ticks(count int) {
	m.Helper()
	for range count {
		m.tick()
	}
}

// refused holds it that a Tick is refused, and sends nothing.
func (m machine) refused(want api.Errno) {
	m.Helper()
	if sent, e := m.Tick(); e != want || len(sent) != 0 {
		m.Fatalf("a Tick: %+v, %v, not %v", sent, e, want)
	}
}

// takes is a Take that answers OK.
func (m machine) takes(x api.Msg) {
	m.Helper()
	if e := m.Take(x); e != api.OK {
		m.Fatalf("Take: %v", e)
	}
}

// has holds it to its epoch.
func (m machine) has(epoch int) {
	m.Helper()
	if got := m.Epoch(); got != epoch {
		m.Fatalf("the epoch is %d, not %d", got, epoch)
	}
}

// runs holds it to what runs, in this order, each as it was told first.
func (m machine) runs(want ...api.Alloc) {
	m.Helper()
	if got := m.Running(); !alike(got, append([]api.Alloc(nil), want...)) {
		m.Fatalf("there run %+v, not %+v", got, want)
	}
}

// registering is what it sends to register.
func (m machine) registering(to, boot int) api.Msg {
	return api.Msg{Kind: msgBeat, From: 100 + m.id, To: to, Ctx: boot, Cmd: api.Cmd{Op: cmdRegister, Node: api.Node{ID: m.id, Cap: room(m.id), Boot: boot}}}
}

// beating is the beat that it sends.
func (m machine) beating(to, epoch, beat int, reports ...api.Report) api.Msg {
	return api.Msg{Kind: msgBeat, From: 100 + m.id, To: to, Ctx: beat, Cmd: api.Cmd{Op: cmdBeat, Node: api.Node{ID: m.id, Epoch: epoch, Seq: beat}, Reports: reports}}
}

// registered is the answer that registers it.
func (m machine) registered(boot, epoch int) api.Msg {
	return api.Msg{Kind: msgBeaten, From: 1, To: 100 + m.id, Ctx: boot, Cmd: api.Cmd{Op: cmdRegister, Node: api.Node{ID: m.id, Cap: room(m.id), Boot: boot}}, Result: api.Result{Value: epoch}}
}

// beaten is the answer to a beat.
func (m machine) beaten(epoch, beat int, allocs ...api.Alloc) api.Msg {
	return api.Msg{Kind: msgBeaten, From: 1, To: 100 + m.id, Ctx: beat, Cmd: api.Cmd{Op: cmdBeat, Node: api.Node{ID: m.id, Epoch: epoch, Seq: beat}}, Result: api.Result{Value: epoch, Allocs: allocs}}
}

// refusal is the answer to a beat that is refused.
func (m machine) refusal(epoch, beat int, code api.Errno) api.Msg {
	x := m.beaten(epoch, beat)
	x.Result = api.Result{Code: code}
	return x
}

// task is an allocation on the machine, under the epoch, as the store tells it; its fields hang on its ID.
func (m machine) task(id, epoch int) api.Alloc {
	return api.Alloc{ID: id, Job: 1 + id%6, Version: 1 + id%3, Group: id % 2, Index: id % 4, Node: m.id, Epoch: epoch, Ask: api.Res{CPU: id % 9, Mem: id % 7}, State: allocNew}
}

// stopped is the same, to Stop.
func stopped(x api.Alloc) api.Alloc {
	x.Stop = true
	return x
}

func report(id, state int) api.Report { return api.Report{Alloc: id, State: state} }

// diskWith is one on which the file boot has this text, durable.
func diskWith(t *testing.T, text string) *disk.Disk {
	t.Helper()
	d := disk.New()
	writes(t, d, text)
	return d
}

// writes lays a text into the file boot, durable.
func writes(t *testing.T, d *disk.Disk, text string) {
	t.Helper()
	if e := d.Put("boot", []byte(text)); e != api.OK {
		t.Fatalf("Put: %v", e)
	}
	if e := d.Sync(); e != api.OK {
		t.Fatalf("Sync: %v", e)
	}
}

// cut cuts a disk behind so many operations more.
func cut(t *testing.T, d *disk.Disk, operations int) {
	t.Helper()
	if e := d.Cut(operations); e != api.OK {
		t.Fatalf("Cut: %v", e)
	}
}

// bootIs holds it what the file boot has; "" means that there is none.
func bootIs(t *testing.T, d *disk.Disk, want string) {
	t.Helper()
	data, e := d.Read("boot")
	if there := e == api.OK; string(data) != want || there != (want != "") {
		t.Fatalf("the file has %q (%v), not %q", data, e, want)
	}
}

// durableIs holds it what the file boot has behind a crash that takes all that was not synced.
func durableIs(t *testing.T, d *disk.Disk, want string) {
	t.Helper()
	d.Crash(0)
	bootIs(t, d, want)
}

func digits(n int) string { return strconv.Itoa(n) }

// farNumbers are the least and the greatest of the type, those at the edges of what may be, and those that are small when they are cut to fewer bits.
func farNumbers() []int {
	return []int{math.MinInt, math.MinInt + 1, -1 << 40, -1 << 32, -1, 0, 1, 2, 3, 5, 9, 10, 102, 1 << 32, 1<<32 + 1, 1 << 40, 1<<40 + 1, 1 << 62, math.MaxInt - 1, math.MaxInt}
}

// alike takes lists of none and no lists as one, at every depth.
func alike(a, b any) bool { return reflect.DeepEqual(plain(a), plain(b)) }

// plain is a copy in which no list is empty but nil.
func plain(a any) any {
	from := reflect.ValueOf(a)
	out := reflect.New(from.Type()).Elem()
	plainInto(out, from)
	return out.Interface()
}

func plainInto(out, from reflect.Value) {
	switch from.Kind() {
	case reflect.Struct:
		for i := range from.NumField() {
			plainInto(out.Field(i), from.Field(i))
		}
	case reflect.Slice:
		if from.Len() > 0 {
			out.Set(reflect.MakeSlice(from.Type(), from.Len(), from.Len()))
		}
		for i := range from.Len() {
			plainInto(out.Index(i), from.Index(i))
		}
	default:
		out.Set(from)
	}
}
