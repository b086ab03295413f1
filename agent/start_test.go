package agent_test

import (
	"strings"
	"testing"

	"coxswain/agent"
	"coxswain/api"
	"coxswain/disk"
)

// refusesStart holds it that a Start is refused, and gives no machine.
func refusesStart(t *testing.T, n api.Node, servers int, d *disk.Disk, want api.Errno) {
	t.Helper()
	if a, e := agent.Start(n, servers, d); a != nil || e != want {
		t.Fatalf("Start of %+v, %d servers: %v, %v, not %v", n, servers, a, e, want)
	}
}

// P17.1: which machines may be, and among how many servers; what is refused boots nothing.
func TestStartOfWhatMayBe(t *testing.T) {
	numbers := append(farNumbers(), 4, 6)
	for _, id := range numbers {
		for _, servers := range numbers {
			d := disk.New()
			if id >= 1 && id <= 4 && servers >= 1 && servers <= 5 {
				starts(t, id, servers, d)
				bootIs(t, d, "1")
				continue
			}
			refusesStart(t, api.Node{ID: id, Cap: room(1)}, servers, d, errArg)
			if len(d.List()) != 0 {
				t.Fatalf("Start of the machine %d, %d servers was refused, and wrote %q", id, servers, d.List())
			}
		}
	}
}

// P17.1: a nil disk.
func TestStartWithoutADisk(t *testing.T) {
	refusesStart(t, api.Node{ID: 1}, 1, nil, errArg)
	refusesStart(t, api.Node{ID: 0}, 9, nil, errArg)
}

// P17.1: of the Node the ID and the Cap count, whatever else it has; the Cap may be any.
func TestStartOfANodeWithMore(t *testing.T) {
	for _, n := range farNumbers() {
		d := diskWith(t, "6")
		a, e := agent.Start(api.Node{ID: 2, Cap: api.Res{CPU: n, Mem: -n}, Up: true, Drain: true, Boot: n, Epoch: n, Seq: n}, 3, d)
		if e != api.OK {
			t.Fatal(e)
		}
		m := machine{t, a, d, 2}
		m.has(0)
		m.runs()
		want := m.registering(1, 7)
		want.Cmd.Node.Cap = api.Res{CPU: n, Mem: -n}
		m.next(want)
	}
}

// badBoots are texts that are no number from 1 to MaxNumber - 1 in decimal digits without noughts ahead.
func badBoots() []string {
	return []string{
		"", "0", "00", "01", "007", "+1", "-1", "-0", "+0", "--1", " 1", "1 ", "1\n", "\n1", "1\x00", "\x001",
		"a", "1a", "a1", "x", "0x1", "0b1", "0o1", "1e1", "1.0", "1.", ".1", "1,0", "1_0", "_1", "'1'", "١", "1١", "\uff11", "\xff", "½",
		"1099511627776", "1099511627777", "01099511627775", "+1099511627775", "1099511627775 ", "9999999999999", "10995116277750",
		"2147483648000000", "9223372036854775806", "9223372036854775807", "9223372036854775808", "18446744073709551616", "18446744073709551617", "18446744073709551615",
		"36893488147419103233", "340282366920938463463374607431768211457", strings.Repeat("9", 1000), "1" + strings.Repeat("0", 1<<20-1), strings.Repeat("0", 1<<20-1) + "1",
	}
}

// P17.1: what the file boot may not be: the start is refused, and changes nothing.
func TestStartOnAFileThatMayNotBe(t *testing.T) {
	for _, text := range badBoots() {
		d := disk.New()
		if e := d.Put("boot", []byte(text)); e != api.OK {
			t.Fatal(e)
		}
		refusesStart(t, api.Node{ID: 2}, 3, d, errCorrupt)
		if data, e := d.Read("boot"); e != api.OK || string(data) != text {
			t.Fatalf("the file of %d bytes was changed to %q, %v", len(text), data[:min(40, len(data))], e)
		}
		if d.Crash(0); len(d.List()) != 0 { // it was not synced, and nobody did so since
			t.Fatalf("the refused start on %.40q synced the disk", text)
		}
	}
}

// P17.1: what it may be: one more is written, durable, and is its boot number, all digits of it.
func TestStartOnAFileThatMayBe(t *testing.T) {
	for _, last := range []int{1, 2, 8, 9, 10, 98, 99, 100, 101, 998, 999, 1 << 31, 1 << 32, 9999999999, 999999999999, maxNumber - 2, maxNumber - 1} {
		d := diskWith(t, digits(last))
		m := starts(t, 2, 3, d)
		bootIs(t, d, digits(last+1))
		durableIs(t, d, digits(last+1))
		m.next(m.registering(1, last+1))
		m.next(m.registering(2, last+1))
		m.takes(m.registered(last+1, 9))
		m.has(9)
	}
	d := disk.New()
	m := starts(t, 2, 3, d)
	durableIs(t, d, "1")
	m.next(m.registering(1, 1))
}

// P17.1: which error is told, when several apply: those of the arguments first, then that of the file, then that of the disk.
func TestWhichErrorOfStart(t *testing.T) {
	d := diskWith(t, "07")
	cut(t, d, 0)
	refusesStart(t, api.Node{ID: 5}, 3, d, errArg)
	refusesStart(t, api.Node{ID: 2}, 0, d, errArg)
	refusesStart(t, api.Node{ID: 2}, 3, d, errCorrupt)
	d = diskWith(t, digits(maxNumber))
	cut(t, d, 0)
	refusesStart(t, api.Node{ID: 2}, 3, d, errCorrupt)
	d = diskWith(t, digits(maxNumber-1))
	cut(t, d, 0)
	refusesStart(t, api.Node{ID: 2}, 3, d, errDisk)
}

// P17.1: a boot that the disk refuses: at its Put, or at its Sync; a later start, behind a crash, has another number than any that was used.
func TestStartOnADiskThatRefuses(t *testing.T) {
	for _, x := range []struct {
		last  string
		cut   int
		file  string // behind the start
		pick  int
		crash string // behind the crash
		next  int
	}{
		{"", 0, "", 0, "", 1},
		{"", 1, "1", 0, "", 1},
		{"", 1, "1", 1, "1", 2},
		{"7", 0, "7", 0, "7", 8},
		{"7", 1, "8", 0, "7", 8},
		{"7", 1, "8", 1, "8", 9},
		{"9", 1, "10", 1, "10", 11},
	} {
		d := disk.New()
		if x.last != "" {
			writes(t, d, x.last)
		}
		cut(t, d, x.cut)
		refusesStart(t, api.Node{ID: 2}, 3, d, errDisk)
		bootIs(t, d, x.file)
		refusesStart(t, api.Node{ID: 2}, 3, d, errDisk)
		bootIs(t, d, x.file)
		d.Crash(x.pick)
		bootIs(t, d, x.crash)
		m := starts(t, 2, 3, d)
		durableIs(t, d, digits(x.next))
		m.next(m.registering(1, x.next))
	}
}

// P17.1: a boot asks two operations of the disk, a Put and a Sync, and no more.
func TestWhatABootAsksOfTheDisk(t *testing.T) {
	d := diskWith(t, "7")
	cut(t, d, 2)
	starts(t, 2, 3, d)
	if e := d.Sync(); e != errDisk {
		t.Fatalf("the boot asked less than two operations: %v", e)
	}
	durableIs(t, d, "8")
}

// P17.1: a disk that is full has no room for the file, unless it has it.
func TestStartOnAFullDisk(t *testing.T) {
	full := func(files int) *disk.Disk {
		d := disk.New()
		for i := range files {
			if e := d.Put("f"+digits(i), nil); e != api.OK {
				t.Fatal(e)
			}
		}
		return d
	}
	d := full(64)
	refusesStart(t, api.Node{ID: 2}, 3, d, errFull)
	if len(d.List()) != 64 {
		t.Fatalf("the files %q", d.List())
	}
	d = full(63)
	starts(t, 2, 3, d)
	starts(t, 2, 3, d)
	bootIs(t, d, "2")
}

// P17.1: other files are left as they are, and do not count.
func TestOtherFiles(t *testing.T) {
	d := disk.New()
	for _, name := range []string{"boo", "boot.", "boot.new", "boots", "log"} {
		if e := d.Put(name, []byte("41")); e != api.OK {
			t.Fatal(e)
		}
	}
	m := starts(t, 2, 3, d)
	m.next(m.registering(1, 1))
	if len(d.List()) != 6 {
		t.Fatalf("the files %q", d.List())
	}
	for _, name := range d.List() {
		want := "41"
		if name == "boot" {
			want = "1"
		}
		if data, _ := d.Read(name); string(data) != want {
			t.Fatalf("the file %s has %q, not %q", name, data, want)
		}
	}
}

// P17.1: a machine begins not registered, with no task, and with a clock of its own, whatever another one on its disk did.
func TestABeginning(t *testing.T) {
	d := disk.New()
	old := starts(t, 2, 3, d)
	old.joins(1, 5)
	old.next(old.beating(2, 5, 1))
	old.takes(old.beaten(5, 1, old.task(7, 5)))
	old.runs(old.task(7, 5))
	old.ticks(1)
	m := starts(t, 2, 3, d)
	m.has(0)
	m.runs()
	if m.Exit(7, false) {
		t.Fatal("it knows another one's task")
	}
	m.next(m.registering(1, 2))
	old.runs(old.task(7, 5))
}
