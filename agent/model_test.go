package agent_test

import (
	"cmp"
	"math/rand"
	"slices"
	"strconv"
	"testing"

	"coxswain/agent"
	"coxswain/api"
	"coxswain/disk"
)

// model is the chapter, word by word, on a disk of its own to which the same is done. It remembers all beats with their ticks, and forgets nothing that it could work out anew.
type model struct {
	id, servers    int
	disk           *disk.Disk
	booted         bool
	boot           int
	clock          int
	sent           int
	hint           int
	epoch          int
	beats          []int // the tick of each beat of this epoch
	taken          []int // the beats that were taken
	registeredAt   int
	tasks          []modelTask // in any order
	ends, renewals int         // for the tests' own count
}

// modelTask is an allocation as it was told first, and its state beside it.
type modelTask struct {
	alloc api.Alloc
	state int
}

// numberOf is the number that a text is, from least to most; told without asking what reads numbers.
func numberOf(text string, most int) (int, bool) {
	n := 0
	for i := range len(text) {
		if text[i] < '0' || text[i] > '9' || i == 0 && text[i] == '0' || n > most {
			return 0, false
		}
		n = 10*n + int(text[i]-'0')
	}
	return n, len(text) > 0 && n <= most
}

func startModel(id, servers int, d *disk.Disk) (*model, api.Errno) {
	if data, e := d.Read("boot"); e == api.OK {
		if _, ok := numberOf(string(data), maxNumber-1); !ok {
			return nil, errCorrupt
		}
	}
	m := &model{id: id, servers: servers, disk: d}
	if e := m.begin(); e != api.OK {
		return nil, e
	}
	return m, api.OK
}

func (m *model) begin() api.Errno {
	m.booted = false
	number := 0
	if data, e := m.disk.Read("boot"); e == api.OK {
		n, ok := numberOf(string(data), maxNumber)
		if !ok {
			return errCorrupt
		}
		number = n
	}
	if number+1 > maxNumber {
		return errFull
	}
	if e := m.disk.Put("boot", strconv.AppendInt(nil, int64(number+1), 10)); e != api.OK {
		return e
	}
	if e := m.disk.Sync(); e != api.OK {
		return e
	}
	m.boot, m.booted = number+1, true
	return api.OK
}

func (m *model) end() int {
	out := m.registeredAt
	for _, beat := range m.taken {
		out = max(out, m.beats[beat-1])
	}
	return out + tickLease
}

func (m *model) giveUp() api.Errno {
	m.tasks, m.epoch = nil, 0
	m.ends++
	return m.begin()
}

func (m *model) tick() ([]api.Msg, api.Errno) {
	m.clock++
	e := api.OK
	if m.epoch > 0 && m.clock > m.end() {
		e = m.giveUp()
	} else if !m.booted {
		e = m.begin()
	}
	if e != api.OK || m.clock%tickRenew > 0 {
		return nil, e
	}
	to := m.sent%m.servers + 1
	if m.hint > 0 && m.hint <= m.servers {
		to = m.hint
	}
	m.hint = 0
	m.sent++
	x := api.Msg{Kind: msgBeat, From: 100 + m.id, To: to, Ctx: m.boot, Cmd: api.Cmd{Op: cmdRegister, Node: api.Node{ID: m.id, Cap: room(m.id), Boot: m.boot}}}
	if m.epoch > 0 {
		m.beats = append(m.beats, m.clock)
		x.Ctx = len(m.beats)
		x.Cmd = api.Cmd{Op: cmdBeat, Node: api.Node{ID: m.id, Epoch: m.epoch, Seq: x.Ctx}, Reports: m.reports()}
	}
	return []api.Msg{x}, api.OK
}

func (m *model) reports() []api.Report {
	slices.SortFunc(m.tasks, func(a, b modelTask) int { return cmp.Compare(a.alloc.ID, b.alloc.ID) })
	var out []api.Report
	for _, x := range m.tasks[:min(len(m.tasks), maxReports)] {
		out = append(out, report(x.alloc.ID, x.state))
	}
	return out
}

func (m *model) take(x api.Msg) api.Errno {
	if x.Kind != msgBeaten || x.To != 100+m.id || !m.booted {
		return api.OK
	}
	m.hint = x.Hint
	switch {
	case m.epoch == 0:
		if x.Result.Code == api.OK && x.Result.Value > 0 && x.Ctx == m.boot && x.Cmd.Op == cmdRegister {
			m.epoch, m.beats, m.taken, m.registeredAt = x.Result.Value, nil, nil, m.clock
		}
	case x.Cmd.Op == cmdBeat && x.Cmd.Node.Epoch == m.epoch:
		if x.Result.Code == errNode || x.Result.Code == errEpoch {
			return m.giveUp()
		}
		remembered := x.Ctx >= 1 && x.Ctx <= len(m.beats) && x.Ctx > len(m.beats)-8
		if x.Result.Code == api.OK && remembered && (len(m.taken) == 0 || x.Ctx > m.taken[len(m.taken)-1]) {
			m.taken = append(m.taken, x.Ctx)
			m.renewals++
			if m.clock <= m.end() {
				m.told(x.Result.Allocs)
			}
		}
	}
	return api.OK
}

// told goes through what is told from its end, so the last of an ID is met first.
func (m *model) told(allocs []api.Alloc) {
	var now []modelTask
	for i := len(allocs) - 1; i >= 0; i-- {
		x := allocs[i]
		same := func(y modelTask) bool { return y.alloc.ID == x.ID }
		if x.Node != m.id || x.Epoch != m.epoch || slices.ContainsFunc(now, same) {
			continue
		}
		switch known := slices.IndexFunc(m.tasks, same); {
		case known < 0 && !x.Stop:
			now = append(now, modelTask{x, allocRunning})
		case known < 0:
			now = append(now, modelTask{x, allocEnded})
		case x.Stop && m.tasks[known].state < allocDone:
			now = append(now, modelTask{m.tasks[known].alloc, allocEnded})
		default:
			now = append(now, m.tasks[known])
		}
	}
	m.tasks = now
}

func (m *model) exit(id int, failed bool) bool {
	for i, x := range m.tasks {
		if x.alloc.ID == id && x.state == allocRunning {
			m.tasks[i].state = allocDone
			if failed {
				m.tasks[i].state = allocFailed
			}
			return true
		}
	}
	return false
}

func (m *model) running() []api.Alloc {
	var out []api.Alloc
	for _, x := range m.tasks {
		if x.state == allocRunning {
			out = append(out, x.alloc)
		}
	}
	slices.SortFunc(out, func(a, b api.Alloc) int { return cmp.Compare(a.ID, b.ID) })
	return out
}

// run is a machine and its model, to which the same is done.
type run struct {
	*testing.T
	dice   *rand.Rand
	what   string // has been done last
	a      *agent.Agent
	m      *model
	disks  [2]*disk.Disk
	id     int
	others int
	ids    int       // of how many tasks there may be
	lossy  int       // one of so many messages is answered
	sent   []api.Msg // the last ones
	epoch  int       // the last one that was given out

	lives, refused, ended, renewed, manyReports, hinted int
}

func newRun(t *testing.T, seed int64) *run {
	dice := rand.New(rand.NewSource(seed))
	r := &run{T: t, dice: dice, disks: [2]*disk.Disk{disk.New(), disk.New()}, id: 1 + dice.Intn(4), others: 1 + dice.Intn(5), ids: []int{3, 9, 100}[dice.Intn(3)], lossy: 1 + dice.Intn(4)}
	r.both(func(d *disk.Disk) api.Errno {
		if dice := rand.New(rand.NewSource(seed)); dice.Intn(4) == 0 {
			return d.Put("boot", []byte(digits(maxNumber-1-dice.Intn(6))))
		}
		return api.OK
	})
	r.start()
	return r
}

// both does the same to both disks.
func (r *run) both(do func(d *disk.Disk) api.Errno) {
	r.Helper()
	if x, y := do(r.disks[0]), do(r.disks[1]); x != y {
		r.Fatalf("%s: a disk answers %v, and the model's %v", r.what, x, y)
	}
}

func (r *run) start() {
	r.Helper()
	a, e := agent.Start(api.Node{ID: r.id, Cap: room(r.id)}, r.others, r.disks[0])
	m, want := startModel(r.id, r.others, r.disks[1])
	if e != want || (a == nil) != (m == nil) {
		r.Fatalf("%s: Start: %v, %v, not %v", r.what, a, e, want)
	}
	if r.m != nil {
		r.ended += r.m.ends
		r.renewed += r.m.renewals
	}
	r.a, r.m = a, m
	if e != api.OK {
		r.refused++
		// All that there was is gone, the disk with it.
		r.disks = [2]*disk.Disk{disk.New(), disk.New()}
		r.start()
	}
	r.lives++
}

func (r *run) tick() {
	r.Helper()
	sent, e := r.a.Tick()
	want, wantE := r.m.tick()
	if e != wantE || !alike(sent, want) {
		r.Fatalf("%s: a Tick sends %+v, %v, not %+v, %v", r.what, sent, e, want, wantE)
	}
	if e != api.OK {
		r.refused++
	}
	r.sent = append(r.sent, want...)
	r.sent = r.sent[max(0, len(r.sent)-6):]
	for _, x := range want {
		if len(x.Cmd.Reports) == maxReports {
			r.manyReports++
		}
		if x.To != (r.m.sent-1)%r.others+1 {
			r.hinted++
		}
	}
}

func (r *run) take(x api.Msg) {
	r.Helper()
	if e, want := r.a.Take(x), r.m.take(x); e != want {
		r.Fatalf("%s: Take of %+v: %v, not %v", r.what, x, e, want)
	}
}

func (r *run) exit() {
	r.Helper()
	id, failed := r.dice.Intn(r.ids+1), r.dice.Intn(2) == 0
	if got, want := r.a.Exit(id, failed), r.m.exit(id, failed); got != want {
		r.Fatalf("%s: Exit of %d: %v, not %v", r.what, id, got, want)
	}
}

// same holds the machine to what the model has.
func (r *run) same() {
	r.Helper()
	if got := r.a.Epoch(); got != r.m.epoch {
		r.Fatalf("%s: the epoch is %d, not %d", r.what, got, r.m.epoch)
	}
	if got, want := r.a.Running(), r.m.running(); !alike(got, want) {
		r.Fatalf("%s: there run %+v, not %+v", r.what, got, want)
	}
	data, e := r.disks[0].Read("boot")
	want, wantE := r.disks[1].Read("boot")
	if e != wantE || string(data) != string(want) {
		r.Fatalf("%s: the file has %q, %v, not %q, %v", r.what, data, e, want, wantE)
	}
}

// anyAllocs are such as a store may tell, and such as it may not.
func (r *run) anyAllocs(epoch int) []api.Alloc {
	var out []api.Alloc
	often := 1 + r.dice.Intn(10)
	for id := range r.ids {
		for r.dice.Intn(11) < often {
			x := api.Alloc{ID: id, Job: r.dice.Intn(3), Node: r.id, Epoch: epoch, Stop: r.dice.Intn(6) == 0, State: r.dice.Intn(8)}
			if r.dice.Intn(20) == 0 {
				x.Node = r.dice.Intn(5)
			}
			if r.dice.Intn(20) == 0 {
				x.Epoch = r.dice.Intn(5)
			}
			out = append(out, x)
			if r.dice.Intn(8) > 0 {
				break
			}
		}
	}
	r.dice.Shuffle(len(out), func(i, j int) { out[i], out[j] = out[j], out[i] })
	return out
}

// answer is one to a message that was sent, now or a while ago; most are as a server's, some are changed.
func (r *run) answer() api.Msg {
	var to api.Msg
	if len(r.sent) > 0 {
		to = r.sent[len(r.sent)-1]
		if r.dice.Intn(3) == 0 {
			to = r.sent[r.dice.Intn(len(r.sent))]
		}
	}
	x := api.Msg{Kind: msgBeaten, From: to.To, To: 100 + r.id, Ctx: to.Ctx, Cmd: api.Cmd{Op: to.Cmd.Op, Node: to.Cmd.Node}, Hint: r.dice.Intn(7)}
	if to.Cmd.Op == cmdRegister {
		if r.dice.Intn(5) > 0 {
			r.epoch++
		}
		x.Result.Value = r.epoch
	} else {
		x.Result = api.Result{Value: to.Cmd.Node.Epoch, Allocs: r.anyAllocs(to.Cmd.Node.Epoch)}
	}
	if r.dice.Intn(30) == 0 {
		x.Result.Code = []api.Errno{errArg, errLeader, errNode, errEpoch, errOld}[r.dice.Intn(5)]
	}
	if r.dice.Intn(10) == 0 {
		r.spoil(&x)
	}
	return x
}

// spoil changes one thing of an answer.
func (r *run) spoil(x *api.Msg) {
	n := r.dice.Intn(12) - 1
	if r.dice.Intn(3) == 0 {
		far := farNumbers()
		n = far[r.dice.Intn(len(far))]
	}
	switch r.dice.Intn(7) {
	case 0:
		x.Kind = n
	case 1:
		x.To = n
	case 2:
		x.Ctx = n
	case 3:
		x.Hint = n
	case 4:
		x.Cmd.Op = n
	case 5:
		x.Cmd.Node.Epoch = n
	case 6:
		x.Result.Value = n
	}
}

// trouble is what befalls a disk, or the machine.
func (r *run) trouble() {
	r.Helper()
	pick, n := r.dice.Intn(5), r.dice.Intn(6)
	crash := func(d *disk.Disk) api.Errno { d.Crash(pick); return api.OK }
	switch r.dice.Intn(9) {
	case 0, 1:
		r.both(func(d *disk.Disk) api.Errno { return d.Cut(n) })
		return
	case 2:
		texts := []string{"", "07", "41", "1000", digits(maxNumber - 1), digits(maxNumber)}
		if pick == 0 {
			r.both(func(d *disk.Disk) api.Errno { return d.Put("boot", []byte(texts[n])) })
		}
		return
	case 3, 4, 5, 6:
		r.both(crash)
	case 7:
		r.both(crash)
		r.start()
	case 8:
		r.start() // it falls alone
	}
}

// P17.1 to P17.4: long runs of any calls, and of what befalls disks, against the chapter's words.
func TestRunsAgainstTheModel(t *testing.T) {
	var sum run
	for seed := range int64(400) {
		r := newRun(t, seed)
		troubles := []int{20, 100, 1000}[r.dice.Intn(3)]
		for at := range 1500 {
			r.what = "seed " + digits(int(seed)) + ", call " + digits(at)
			switch n := r.dice.Intn(10); {
			case r.dice.Intn(troubles) == 0:
				r.trouble()
			case n < 5:
				r.tick()
			case n < 6:
				r.exit()
			case r.dice.Intn(r.lossy) == 0:
				r.take(r.answer())
			}
			r.same()
		}
		sum.lives += r.lives
		sum.refused += r.refused
		sum.ended += r.ended + r.m.ends
		sum.renewed += r.renewed + r.m.renewals
		sum.manyReports += r.manyReports
		sum.hinted += r.hinted
	}
	if sum.lives < 1500 || sum.refused < 10000 || sum.ended < 5000 || sum.renewed < 20000 || sum.manyReports < 300 || sum.hinted < 10000 {
		t.Errorf("the runs came to too little: %d lives, %d refused boots, %d ends of registrations, %d beats taken, %d full reports, %d hints asked", sum.lives, sum.refused, sum.ended, sum.renewed, sum.manyReports, sum.hinted)
	}
}
