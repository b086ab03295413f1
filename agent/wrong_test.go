package agent_test

import (
	"math"
	"math/rand"
	"reflect"
	"testing"

	"coxswain/api"
	"coxswain/disk"
)

// R1, R6: an epoch of any size is one, and is told whole.
func TestFarEpochs(t *testing.T) {
	for _, epoch := range farNumbers() {
		m := fresh(t)
		m.ticks(3)
		m.takes(m.registered(1, epoch))
		if epoch <= 0 {
			m.has(0)
			continue
		}
		m.has(epoch)
		m.next(m.beating(2, epoch, 1))
		far := m.task(7, epoch)
		m.takes(m.beaten(epoch, 1, far, m.task(8, epoch-1), m.task(9, epoch&0xffffffff^1)))
		m.runs(far)
	}
}

// R1, R6: tasks of far numbers are tasks like all.
func TestFarTasks(t *testing.T) {
	far := farNumbers()
	x := told(t)
	var all []api.Alloc
	var want []api.Report
	for _, n := range far { // they rise
		all = append(all, api.Alloc{ID: n, Job: n, Version: n, Group: n, Index: n, Node: 2, Epoch: 5, Ask: api.Res{CPU: n, Mem: n}, State: n})
		want = append(want, report(n, allocRunning))
	}
	x.tell(all...)
	x.runs(all...)
	x.knows(want...)
	for i := range all {
		if !x.Exit(far[i], true) {
			t.Fatalf("the task %d did not end", far[i])
		}
		x.runs(all[i+1:]...)
	}
}

// farMsg is a message of far numbers in each field, at every depth.
func farMsg(dice *rand.Rand) api.Msg {
	far := farNumbers()
	var x api.Msg
	var fill func(v reflect.Value)
	fill = func(v reflect.Value) {
		switch v.Kind() {
		case reflect.Struct:
			for i := range v.NumField() {
				fill(v.Field(i))
			}
		case reflect.Slice:
			v.Set(reflect.MakeSlice(v.Type(), dice.Intn(3), 3))
			for i := range v.Len() {
				fill(v.Index(i))
			}
		case reflect.Bool:
			v.SetBool(dice.Intn(2) == 0)
		case reflect.Uint8:
			v.SetUint(uint64(dice.Intn(256)))
		default:
			v.SetInt(int64(far[dice.Intn(len(far))]))
		}
	}
	fill(reflect.ValueOf(&x).Elem())
	return x
}

// R1: each call ends, whatever comes; of what is not for it nothing comes.
func TestAnyMessages(t *testing.T) {
	dice := rand.New(rand.NewSource(17))
	for range 100 {
		m := joined(t)
		m.next(m.beating(2, 5, 1))
		m.takes(m.beaten(5, 1, m.task(7, 5)))
		for range 200 {
			x := farMsg(dice)
			x.Kind = x.Kind&1 | msgBeaten // 10 or 11
			if x.Kind == msgBeaten && x.To == 102 && dice.Intn(2) == 0 {
				x.To = 101
			}
			was := m.Epoch()
			e := m.Take(x)
			if e != api.OK || m.Epoch() != was && (x.Kind != msgBeaten || x.To != 102) {
				t.Fatalf("Take of %+v: %v, and the epoch is %d", x, e, m.Epoch())
			}
			if dice.Intn(30) == 0 {
				m.ticks(1)
			}
			m.Exit(x.Ctx, x.Reject)
			m.Running()
		}
	}
}

// R1: any messages that come nearer: answers to beats, all of whose other numbers are far.
func TestAnyAnswers(t *testing.T) {
	dice := rand.New(rand.NewSource(18))
	m := fresh(t)
	for range 5000 {
		x := farMsg(dice)
		x.Kind, x.To = msgBeaten, 102
		x.Cmd.Op = cmdRegister + dice.Intn(2)
		x.Cmd.Node.Epoch = m.Epoch()
		if dice.Intn(2) == 0 {
			x.Result.Code = api.OK
		}
		for i := range x.Result.Allocs {
			x.Result.Allocs[i].Node, x.Result.Allocs[i].Epoch = 2, m.Epoch()
		}
		m.takes(x)
		for _, y := range m.Running() {
			m.Exit(y.ID, x.Reject)
		}
		for _, y := range m.tick() {
			if y.To < 1 || y.To > 3 || y.From != 102 || y.Kind != msgBeat {
				t.Fatalf("it sends %+v", y)
			}
		}
	}
}

// R1: Exit of any number, at any time, on a machine that could not boot, too.
func TestExitAtAnyTime(t *testing.T) {
	m := joined(t)
	cut(t, m.disk, 0)
	for range 20 {
		for _, n := range []int{math.MinInt, -1, 0, 1, math.MaxInt} {
			if m.Exit(n, true) {
				t.Fatalf("a task %d ended that there was not", n)
			}
		}
		m.Tick()
	}
}

// R1: a very long list, of many that are the same.
func TestVeryLongLists(t *testing.T) {
	m := joined(t)
	m.next(m.beating(2, 5, 1))
	var all []api.Alloc
	for i := range 300000 {
		all = append(all, api.Alloc{ID: i % 100000, Job: i, Node: 2, Epoch: 5})
	}
	m.takes(m.beaten(5, 1, all...))
	m.runs(all[200000:]...)
	m.ticks(tickLease + 1)
	m.has(0)
	m.runs()
}

// P17.1: two machines on one disk, one behind the other or side by side, have no boot number in common.
func TestTwoMachinesOnOneDisk(t *testing.T) {
	d := disk.New()
	used := map[int]int{}
	a, b := starts(t, 2, 3, d), starts(t, 2, 3, d)
	for epoch := 1; epoch < 40; epoch++ {
		for _, m := range []machine{a, b} {
			for m.Epoch() == 0 {
				for _, x := range m.tick() {
					used[x.Ctx]++
					m.takes(m.registered(x.Ctx, epoch))
				}
			}
			m.ticks(tickLease)
			m.has(epoch)
			m.takes(api.Msg{Kind: msgBeaten, To: 102, Cmd: api.Cmd{Op: cmdBeat, Node: api.Node{Epoch: epoch}}, Result: api.Result{Code: errNode}})
			m.has(0)
		}
	}
	if len(used) != 78 {
		t.Fatalf("of 78 registrations %d had a number of their own: %v", len(used), used)
	}
}
