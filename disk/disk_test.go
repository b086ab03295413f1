package disk_test

import (
	"fmt"
	"math"
	"slices"
	"strings"
	"testing"

	"coxswain/api"
	"coxswain/disk"
)

const maxFile = 1 << 20

func is(t *testing.T, what string, got, want api.Errno) {
	t.Helper()
	if got != want {
		t.Fatalf("%s: %d, not %d", what, got, want)
	}
}

func reads(t *testing.T, d *disk.Disk, name, want string) {
	t.Helper()
	if got, e := d.Read(name); string(got) != want || e != api.OK {
		t.Fatalf("Read(%q) = %s, %d, not %s", name, short(string(got)), e, short(want))
	}
}

func lacks(t *testing.T, d *disk.Disk, name string, want api.Errno) {
	t.Helper()
	if got, e := d.Read(name); len(got) != 0 || e != want {
		t.Fatalf("Read(%q) = %s, %d, not nothing and %d", name, short(string(got)), e, want)
	}
}

func lists(t *testing.T, d *disk.Disk, want ...string) {
	t.Helper()
	if got := d.List(); !slices.Equal(got, want) {
		t.Fatalf("List() = %q, not %q", got, want)
	}
}

// full is a disk with 64 files, all synced.
func full(t *testing.T) (*disk.Disk, []string) {
	t.Helper()
	d := disk.New()
	var names []string
	for i := range 64 {
		names = append(names, fmt.Sprintf("f%02d", i))
		is(t, "Put of one of 64", d.Put(names[i], []byte{byte(i)}), api.OK)
	}
	is(t, "Sync", d.Sync(), api.OK)
	return d, names
}

// TestExamples: the chapter's, one behind the other.
func TestExamples(t *testing.T) {
	d := disk.New()
	is(t, "Append", d.Append("a", []byte("xy")), api.OK)
	is(t, "Append", d.Append("a", []byte("z")), api.OK)
	reads(t, d, "a", "xyz")
	lacks(t, d, "b", api.ErrName)
	lacks(t, d, "B", api.ErrArg)

	d.Crash(2)
	reads(t, d, "a", "xy")

	is(t, "Put", d.Put("b", []byte("1")), api.OK)
	is(t, "Rename", d.Rename("b", "c"), api.OK)
	lists(t, d, "a", "c")
	d.Crash(1)
	lists(t, d, "a", "b")

	is(t, "Put", d.Put("b", []byte("2")), api.OK)
	is(t, "Sync", d.Sync(), api.OK)
	is(t, "Remove", d.Remove("b"), api.OK)
	lists(t, d, "a")
	d.Crash(0)
	reads(t, d, "b", "2")

	is(t, "Append of none", d.Append("d", nil), api.OK)
	d.Crash(1)
	lists(t, d, "a", "b", "d")
	is(t, "Append of none", d.Append("d", nil), api.OK)
	d.Crash(0)
	lists(t, d, "a", "b", "d")
	reads(t, d, "d", "")

	is(t, "Cut", d.Cut(1), api.OK)
	is(t, "Sync", d.Sync(), api.OK)
	is(t, "Put of a cut disk", d.Put("a", nil), api.ErrDisk)
	reads(t, d, "a", "xy")
	d.Crash(0)
	is(t, "Put", d.Put("a", nil), api.OK)
	reads(t, d, "a", "")
}

// TestNew: P2.1: no file, nothing was done, not cut; and no disk has another's files.
func TestNew(t *testing.T) {
	d := disk.New()
	lists(t, d)
	lacks(t, d, "a", api.ErrName)
	d.Crash(7)
	lists(t, d)
	is(t, "Sync", d.Sync(), api.OK)
	is(t, "Put", d.Put("a", []byte("1")), api.OK)
	other := disk.New()
	is(t, "Cut", other.Cut(0), api.OK)
	lists(t, other)
	is(t, "Append beside a disk that is cut", d.Append("a", []byte("2")), api.OK)
	reads(t, d, "a", "12")
}

// TestNames: which names there are, byte by byte and by their lengths, for each call that takes one.
func TestNames(t *testing.T) {
	const good = "abcdefghijklmnopqrstuvwxyz0123456789.-"
	for c := range 256 {
		want := api.ErrArg
		if strings.IndexByte(good, byte(c)) >= 0 {
			want = api.OK
		}
		one := string([]byte{byte(c)})
		for _, name := range []string{one, one + "a", "a" + one, "a" + one + "a", strings.Repeat("a", 31) + one} {
			tryName(t, name, want)
		}
	}
	for n := range 70 {
		want := api.ErrArg
		if n >= 1 && n <= 32 {
			want = api.OK
		}
		tryName(t, strings.Repeat("7", n), want)
	}
	for _, name := range []string{".", "..", "-", "0", "a.b-c.9", good[:32]} {
		tryName(t, name, api.OK)
	}
	for _, name := range []string{"é", "a/b", " a", "a ", "a\n", "\x00", "日本", strings.Repeat("é", 16), strings.Repeat("a", 1000)} {
		tryName(t, name, api.ErrArg)
	}
}

func tryName(t *testing.T, name string, want api.Errno) {
	t.Helper()
	d := disk.New()
	what := fmt.Sprintf(" with the name %q", name)
	is(t, "Append"+what, d.Append(name, []byte("1")), want)
	is(t, "Put"+what, d.Put(name, []byte("12")), want)
	if want == api.OK {
		reads(t, d, name, "12")
		is(t, "Rename from"+what, d.Rename(name, "other"), api.OK)
		is(t, "Rename to"+what, d.Rename("other", name), api.OK)
		lists(t, d, name)
		is(t, "Remove"+what, d.Remove(name), api.OK)
		lists(t, d)
		return
	}
	lacks(t, d, name, want)
	is(t, "Remove"+what, d.Remove(name), want)
	is(t, "Rename from"+what, d.Rename(name, "b"), want)
	is(t, "Put", d.Put("b", []byte("b")), api.OK)
	is(t, "Rename to"+what, d.Rename("b", name), want)
	is(t, "Rename of itself"+what, d.Rename(name, name), want)
	lists(t, d, "b")
	d.Crash(1)
	lists(t, d, "b")
}

// TestErrorsInOrder: P2.1: of several errors at once the first one is told: ErrArg, ErrDisk, ErrName, ErrFull.
func TestErrorsInOrder(t *testing.T) {
	d, names := full(t)
	long := make([]byte, maxFile+1)
	is(t, "Append: a name that is none, full", d.Append("A", long), api.ErrArg)
	is(t, "Put: a name that is none, full", d.Put("A", long), api.ErrArg)
	is(t, "Rename: no such file, a name that is none", d.Rename("x", "X"), api.ErrArg)
	is(t, "Rename: two names that are none", d.Rename("", ""), api.ErrArg)
	is(t, "Rename: no such file, to itself", d.Rename("x", "x"), api.ErrName)
	is(t, "Rename: no such file, to one that is there", d.Rename("x", names[0]), api.ErrName)
	is(t, "Remove: no such file", d.Remove("x"), api.ErrName)

	is(t, "Cut", d.Cut(0), api.OK)
	is(t, "Append: a name that is none, cut", d.Append("A", long), api.ErrArg)
	is(t, "Put: a name that is none, cut", d.Put("A", nil), api.ErrArg)
	is(t, "Remove: a name that is none, cut", d.Remove(""), api.ErrArg)
	is(t, "Rename: a name that is none, cut", d.Rename("A", "a"), api.ErrArg)
	is(t, "Rename: a name that is none, cut", d.Rename(names[0], "A"), api.ErrArg)
	is(t, "Append: cut, full", d.Append("x", long), api.ErrDisk)
	is(t, "Append: cut", d.Append(names[0], nil), api.ErrDisk)
	is(t, "Put: cut, full", d.Put("x", long), api.ErrDisk)
	is(t, "Put: cut", d.Put(names[0], nil), api.ErrDisk)
	is(t, "Remove: cut, no such file", d.Remove("x"), api.ErrDisk)
	is(t, "Remove: cut", d.Remove(names[0]), api.ErrDisk)
	is(t, "Rename: cut, no such file", d.Rename("x", "y"), api.ErrDisk)
	is(t, "Rename: cut", d.Rename(names[0], names[1]), api.ErrDisk)
	is(t, "Rename: cut, to itself", d.Rename(names[0], names[0]), api.ErrDisk)
	is(t, "Sync: cut", d.Sync(), api.ErrDisk)
	lacks(t, d, "A", api.ErrArg)
	lacks(t, d, "x", api.ErrName)
	reads(t, d, names[5], "\x05")
	lists(t, d, names...)
}

// TestRefusedChangesNothing: P2.1: neither the files, nor what was done, nor how many operations there are till the disk is cut.
func TestRefusedChangesNothing(t *testing.T) {
	d, names := full(t)
	is(t, "Append", d.Append(names[0], []byte("pqr")), api.OK)
	is(t, "Cut", d.Cut(2), api.OK)
	refuse := func() {
		t.Helper()
		is(t, "Append", d.Append("A", []byte("1")), api.ErrArg)
		is(t, "Append", d.Append("x", nil), api.ErrFull)
		is(t, "Append", d.Append(names[0], make([]byte, maxFile)), api.ErrFull)
		is(t, "Put", d.Put("", []byte("1")), api.ErrArg)
		is(t, "Put", d.Put("x", []byte("1")), api.ErrFull)
		is(t, "Put", d.Put(names[0], make([]byte, maxFile+1)), api.ErrFull)
		is(t, "Remove", d.Remove("x y"), api.ErrArg)
		is(t, "Remove", d.Remove("x"), api.ErrName)
		is(t, "Rename", d.Rename(names[0], "X"), api.ErrArg)
		is(t, "Rename", d.Rename("x", names[1]), api.ErrName)
		is(t, "Cut", d.Cut(-1), api.ErrArg)
		is(t, "Cut", d.Cut(1<<40+1), api.ErrArg)
		lacks(t, d, "x", api.ErrName)
		lacks(t, d, "X", api.ErrArg)
		lists(t, d, names...)
		reads(t, d, names[1], "\x01")
	}
	refuse()
	reads(t, d, names[0], "\x00pqr")
	is(t, "the first operation more", d.Append(names[0], []byte("s")), api.OK)
	refuse()
	is(t, "the second operation more", d.Append(names[0], []byte("t")), api.OK)
	is(t, "the third operation more", d.Append(names[0], []byte("u")), api.ErrDisk)
	is(t, "Put", d.Put(names[0], []byte("u")), api.ErrDisk)
	is(t, "Remove", d.Remove(names[0]), api.ErrDisk)
	is(t, "Rename", d.Rename(names[0], names[1]), api.ErrDisk)
	is(t, "Sync", d.Sync(), api.ErrDisk)
	reads(t, d, names[0], "\x00pqrst")
	// Five units were done, and no more: a sixth would let 4 be another remainder.
	d.Crash(6 + 4)
	reads(t, d, names[0], "\x00pqrs")
	lists(t, d, names...)
}

// TestManyFiles: at most 64, whichever call would make one more; what is no more makes room.
func TestManyFiles(t *testing.T) {
	d, names := full(t)
	lists(t, d, names...)
	is(t, "Put of a 65th", d.Put("x", nil), api.ErrFull)
	is(t, "Append to a 65th", d.Append("x", []byte("1")), api.ErrFull)
	is(t, "Append of none to a 65th", d.Append("x", nil), api.ErrFull)
	is(t, "Put of one that is there", d.Put(names[63], []byte("q")), api.OK)
	is(t, "Append to one that is there", d.Append(names[0], []byte("r")), api.OK)
	is(t, "Append of none to one that is there", d.Append(names[0], nil), api.OK)
	is(t, "Rename to another name", d.Rename(names[0], "x"), api.OK)
	is(t, "Put of a 65th", d.Put(names[0], nil), api.ErrFull)
	reads(t, d, "x", "\x00r")
	is(t, "Rename to one that is there", d.Rename("x", names[1]), api.OK)
	is(t, "Put of the 64th", d.Put("x", []byte("s")), api.OK)
	is(t, "Put of a 65th", d.Put("y", nil), api.ErrFull)
	is(t, "Remove", d.Remove("x"), api.OK)
	is(t, "Append to the 64th", d.Append("y", nil), api.OK)
	is(t, "Append to a 65th", d.Append("x", nil), api.ErrFull)

	d.Crash(0)
	lists(t, d, names...)
	is(t, "Put of a 65th", d.Put("x", nil), api.ErrFull)
	is(t, "Remove", d.Remove(names[9]), api.OK)
	d.Crash(-1)
	is(t, "Put of the 64th", d.Put("x", nil), api.OK)
	d.Crash(0)
	is(t, "Append to the 64th", d.Append("y", nil), api.OK)
	is(t, "Append to a 65th", d.Append("z", nil), api.ErrFull)
}

// TestLongFiles: at most 2^20 bytes, put or appended.
func TestLongFiles(t *testing.T) {
	long := []byte(strings.Repeat("0123456789abcde\n", maxFile/16))
	d := disk.New()
	is(t, "Put of one byte too many", d.Put("a", append(long, 'x')), api.ErrFull)
	is(t, "Append of one byte too many", d.Append("a", append(long, 'x')), api.ErrFull)
	lists(t, d)
	is(t, "Put of 2^20 bytes", d.Put("a", long), api.OK)
	reads(t, d, "a", string(long))
	is(t, "Append of one more", d.Append("a", []byte("x")), api.ErrFull)
	is(t, "Append of none", d.Append("a", nil), api.OK)
	is(t, "Append of 2^20 bytes", d.Append("b", long), api.OK)
	reads(t, d, "b", string(long))
	is(t, "Append of none", d.Append("b", []byte{}), api.OK)
	is(t, "Append of one more", d.Append("b", []byte("x")), api.ErrFull)
	is(t, "Put of a short one", d.Put("a", []byte("short")), api.OK)
	is(t, "Append of too much", d.Append("a", long[4:]), api.ErrFull)
	is(t, "Append of all there is room for", d.Append("a", long[5:]), api.OK)
	reads(t, d, "a", "short"+string(long[5:]))
	is(t, "Rename", d.Rename("a", "c"), api.OK)
	is(t, "Append of one more", d.Append("c", []byte("x")), api.ErrFull)

	// 1 + 2^20 + 1 + 2^20 + 1 + 1 + .. units: each byte of an Append is one.
	d.Crash(1 + 1 + maxFile - 1)
	reads(t, d, "a", string(long))
	reads(t, d, "b", string(long[:maxFile-1]))
	is(t, "Append of the last byte", d.Append("b", []byte("x")), api.OK)
	is(t, "Append of one more", d.Append("b", []byte("x")), api.ErrFull)
	reads(t, d, "b", string(long[:maxFile-1])+"x")
}

// TestWrites: P2.1: what Append, Put, Remove and Rename do to the files, theirs and others'.
func TestWrites(t *testing.T) {
	d := disk.New()
	all := make([]byte, 256)
	for i := range all {
		all[i] = byte(i)
	}
	is(t, "Append to a file that is not there", d.Append("a", all), api.OK)
	is(t, "Append", d.Append("a", all[250:]), api.OK)
	is(t, "Append of none", d.Append("a", nil), api.OK)
	reads(t, d, "a", string(all)+string(all[250:]))
	is(t, "Put of a shorter one", d.Put("a", []byte("123")), api.OK)
	reads(t, d, "a", "123")
	is(t, "Append behind a Put", d.Append("a", []byte("45")), api.OK)
	reads(t, d, "a", "12345")
	is(t, "Put of none", d.Put("a", nil), api.OK)
	reads(t, d, "a", "")
	is(t, "Put of none", d.Put("b", []byte{}), api.OK)
	lists(t, d, "a", "b")
	is(t, "Append", d.Append("b", []byte("bb")), api.OK)
	is(t, "Remove", d.Remove("a"), api.OK)
	lists(t, d, "b")
	lacks(t, d, "a", api.ErrName)
	is(t, "Remove of what is no more", d.Remove("a"), api.ErrName)
	is(t, "Append to what is no more", d.Append("a", []byte("new")), api.OK)
	reads(t, d, "a", "new")
	reads(t, d, "b", "bb")
}

// TestRename: to another name, to one that is there, to its own.
func TestRename(t *testing.T) {
	d := disk.New()
	is(t, "Put", d.Put("a", []byte("of a")), api.OK)
	is(t, "Put", d.Put("b", []byte("of b")), api.OK)
	is(t, "Put", d.Put("c", []byte("of c")), api.OK)
	is(t, "Rename to its own name", d.Rename("a", "a"), api.OK)
	lists(t, d, "a", "b", "c")
	reads(t, d, "a", "of a")
	is(t, "Rename to one that is there", d.Rename("a", "b"), api.OK)
	lists(t, d, "b", "c")
	reads(t, d, "b", "of a")
	reads(t, d, "c", "of c")
	lacks(t, d, "a", api.ErrName)
	is(t, "Rename of what is no more", d.Rename("a", "b"), api.ErrName)
	is(t, "Rename of what is no more, to itself", d.Rename("a", "a"), api.ErrName)
	is(t, "Rename to another name", d.Rename("b", "d"), api.OK)
	lists(t, d, "c", "d")
	is(t, "Append to the name that it had", d.Append("b", []byte("!")), api.OK)
	is(t, "Append to the name that it has", d.Append("d", []byte("?")), api.OK)
	reads(t, d, "b", "!")
	reads(t, d, "d", "of a?")

	// 3 Puts, 3 Renames that were done, 2 Appends of a byte.
	for keep, want := range [][]string{{}, {"a"}, {"a", "b"}, {"a", "b", "c"}, {"a", "b", "c"}, {"b", "c"}, {"c", "d"}, {"b", "c", "d"}, {"b", "c", "d"}} {
		e := disk.New()
		e.Put("a", []byte("of a"))
		e.Put("b", []byte("of b"))
		e.Put("c", []byte("of c"))
		e.Rename("a", "a")
		e.Rename("a", "b")
		e.Rename("a", "b")
		e.Rename("b", "d")
		e.Append("b", []byte("!"))
		e.Append("d", []byte("?"))
		e.Crash(keep)
		lists(t, e, want...)
	}
}

// TestList: the names rise byte by byte, in whatever order the files were made.
func TestList(t *testing.T) {
	rising := []string{"-", "--", "-.", "-a", ".", ".-", "0", "00", "01", "09", "10", "2", "9", "a", "a-", "a-b", "a.", "a.b", "a0", "aa", "ab", "b", "z", "zz"}
	for shift := range rising {
		d := disk.New()
		for i := range rising {
			is(t, "Put", d.Put(rising[(i*7+shift)%len(rising)], nil), api.OK)
		}
		lists(t, d, rising...)
		d.Crash(-1)
		lists(t, d, rising...)
	}
}

// writes are the operations that Cut counts, each of which can be done at any time on a disk with the files a and b.
func writes(d *disk.Disk) map[string]func() api.Errno {
	return map[string]func() api.Errno{
		"Append":             func() api.Errno { return d.Append("a", []byte("123")) },
		"Append of none":     func() api.Errno { return d.Append("a", nil) },
		"Put":                func() api.Errno { return d.Put("a", []byte("4")) },
		"Remove":             func() api.Errno { return d.Remove("b") },
		"Rename":             func() api.Errno { return d.Rename("b", "c") },
		"Rename to its name": func() api.Errno { return d.Rename("a", "a") },
		"Sync":               d.Sync,
	}
}

// TestCutCounts: P2.2: each of the five kinds of operations counts one, Reads and Lists none.
func TestCutCounts(t *testing.T) {
	for what := range writes(nil) {
		for n := range 4 {
			d := disk.New()
			is(t, "Put", d.Put("a", nil), api.OK)
			is(t, "Put", d.Put("b", nil), api.OK)
			is(t, "Cut", d.Cut(n), api.OK)
			for i := range n {
				lists(t, d, "a", "b")
				reads(t, d, "b", "")
				lacks(t, d, "x", api.ErrName)
				if i < n-1 {
					is(t, "Append till the last", d.Append("a", []byte("more")), api.OK)
				}
			}
			if n > 0 {
				is(t, what+", the last one", writes(d)[what](), api.OK)
			}
			for other, f := range writes(d) {
				is(t, fmt.Sprintf("%s behind %d, the last a %s", other, n, what), f(), api.ErrDisk)
			}
		}
	}
}

// TestCutEdges: P2.2: 0 and 2^40, and one beyond each; a Cut that is refused leaves the last one as it was.
func TestCutEdges(t *testing.T) {
	d := disk.New()
	is(t, "Cut(2^40)", d.Cut(1<<40), api.OK)
	for range 5000 {
		is(t, "Sync", d.Sync(), api.OK)
	}
	for _, n := range []int{-1, -2, 1<<40 + 1, 1 << 41, math.MinInt, math.MaxInt} {
		is(t, fmt.Sprintf("Cut(%d)", n), d.Cut(n), api.ErrArg)
		is(t, "Sync behind a Cut that is refused", d.Sync(), api.OK)
	}
	is(t, "Cut(0)", d.Cut(0), api.OK)
	is(t, "Sync", d.Sync(), api.ErrDisk)
	for _, n := range []int{-1, 1<<40 + 1, math.MinInt, math.MaxInt} {
		is(t, fmt.Sprintf("Cut(%d) of a cut disk", n), d.Cut(n), api.ErrArg)
		is(t, "Sync", d.Sync(), api.ErrDisk)
	}
	is(t, "Cut(2^40) of a cut disk", d.Cut(1<<40), api.OK)
	is(t, "Sync", d.Sync(), api.OK)
	is(t, "Cut(2^40 - 1)", d.Cut(1<<40-1), api.OK)
	is(t, "Sync", d.Sync(), api.OK)
}

// TestCutLast: P2.2: the last Cut alone counts, from then on; also of a disk that is cut.
func TestCutLast(t *testing.T) {
	for first := range 4 {
		for last := range 4 {
			for between := range 4 {
				d := disk.New()
				is(t, "Cut", d.Cut(first), api.OK)
				for i := range between {
					want := api.OK
					if i >= first {
						want = api.ErrDisk
					}
					is(t, "Sync ahead of the last Cut", d.Sync(), want)
				}
				is(t, "Cut", d.Cut(last), api.OK)
				for range last {
					is(t, "Put behind the last Cut", d.Put("a", nil), api.OK)
				}
				for range 3 {
					is(t, "Put of a cut disk", d.Put("a", nil), api.ErrDisk)
					is(t, "Sync of a cut disk", d.Sync(), api.ErrDisk)
				}
			}
		}
	}
}

// TestCutTillCrash: P2.2, P2.3: a crash ends what Cut asked for, whether the disk is cut already or not.
func TestCutTillCrash(t *testing.T) {
	for n := range 4 {
		for done := range 6 {
			d := disk.New()
			is(t, "Put", d.Put("a", nil), api.OK)
			is(t, "Cut", d.Cut(n), api.OK)
			for range done {
				d.Append("a", []byte("1"))
			}
			d.Crash(-1)
			reads(t, d, "a", strings.Repeat("1", min(n, done)))
			for range 6 {
				is(t, "Put behind a crash", d.Put("a", nil), api.OK)
				is(t, "Sync behind a crash", d.Sync(), api.OK)
			}
			is(t, "Cut", d.Cut(1), api.OK)
			is(t, "Sync", d.Sync(), api.OK)
			is(t, "Sync", d.Sync(), api.ErrDisk)
		}
	}
}

// script does some of each kind of operation on a disk with the files a and b.
func script(t *testing.T) *disk.Disk {
	t.Helper()
	d := disk.New()
	is(t, "Put", d.Put("a", []byte("A")), api.OK)
	is(t, "Put", d.Put("b", []byte("B")), api.OK)
	is(t, "Sync", d.Sync(), api.OK)
	is(t, "Append", d.Append("a", []byte("12")), api.OK)
	is(t, "Append", d.Append("c", nil), api.OK)
	is(t, "Append", d.Append("a", nil), api.OK)
	is(t, "Rename", d.Rename("a", "b"), api.OK)
	is(t, "Append", d.Append("b", []byte("3")), api.OK)
	is(t, "Rename", d.Rename("b", "b"), api.OK)
	is(t, "Put", d.Put("b", []byte("long")), api.OK)
	is(t, "Append", d.Append("a", []byte("xyz")), api.OK)
	is(t, "Remove", d.Remove("a"), api.OK)
	is(t, "Append", d.Append("b", []byte("!?")), api.OK)
	is(t, "Put", d.Put("c", nil), api.OK)
	return d
}

// scriptKept is the files behind each number of the script's units.
func scriptKept() []map[string]string {
	return []map[string]string{
		{"a": "A", "b": "B"},
		{"a": "A1", "b": "B"},
		{"a": "A12", "b": "B"},
		{"a": "A12", "b": "B", "c": ""},
		{"a": "A12", "b": "B", "c": ""},
		{"b": "A12", "c": ""},
		{"b": "A123", "c": ""},
		{"b": "A123", "c": ""},
		{"b": "long", "c": ""},
		{"a": "x", "b": "long", "c": ""},
		{"a": "xy", "b": "long", "c": ""},
		{"a": "xyz", "b": "long", "c": ""},
		{"b": "long", "c": ""},
		{"b": "long!", "c": ""},
		{"b": "long!?", "c": ""},
		{"b": "long!?", "c": ""},
	}
}

// TestCrash: P2.3: for each pick, that may be below 0 or far above the units, just the first units are there, and they are durable.
func TestCrash(t *testing.T) {
	kept := scriptKept()
	var picks []int
	for pick := -3 * len(kept); pick <= 3*len(kept); pick++ {
		picks = append(picks, pick)
	}
	picks = append(picks, math.MinInt, math.MinInt+1, math.MaxInt, math.MaxInt-1, 1<<31, -1<<31, 1<<32, -1<<32, 1<<40)
	for _, pick := range picks {
		p := (pick%len(kept) + len(kept)) % len(kept)
		d := script(t)
		d.Crash(pick)
		what := fmt.Sprintf("Crash(%d)", pick)
		holds(t, d, kept[p], what)
		d.Crash(0)
		holds(t, d, kept[p], what+", Crash(0)")
		d.Crash(1)
		holds(t, d, kept[p], what+", Crash(0), Crash(1)")
	}
}

// TestCrashThenMore: P2.3: what is done behind a crash is done on what it left, and counts from its first unit on.
func TestCrashThenMore(t *testing.T) {
	for p, kept := range scriptKept() {
		for more := range 4 {
			d := script(t)
			d.Crash(p)
			is(t, "Append", d.Append("b", []byte("()")), api.OK)
			is(t, "Rename", d.Rename("b", "z"), api.OK)
			d.Crash(more)
			want := map[string]string{}
			for name, data := range kept {
				want[name] = data
			}
			want["b"] += "()"[:min(more, 2)]
			if more == 3 {
				want["z"] = want["b"]
				delete(want, "b")
			}
			holds(t, d, want, fmt.Sprintf("Crash(%d), Append, Rename, Crash(%d)", p, more))
		}
	}
}

// TestCrashWithNothingDone: P2.3: the remainder by 1 is 0, for every pick.
func TestCrashWithNothingDone(t *testing.T) {
	d := script(t)
	is(t, "Sync", d.Sync(), api.OK)
	kept := scriptKept()
	for _, pick := range []int{0, 1, -1, 5, -5, math.MinInt, math.MaxInt} {
		d.Crash(pick)
		holds(t, d, kept[len(kept)-1], fmt.Sprintf("Crash(%d)", pick))
	}
}

// TestCrashOfCutDisk: P2.3: what was done ahead of the cut is what a crash has to pick from.
func TestCrashOfCutDisk(t *testing.T) {
	for p, want := range []string{"", "1", "12", "123"} {
		d := disk.New()
		is(t, "Put", d.Put("a", nil), api.OK)
		is(t, "Sync", d.Sync(), api.OK)
		is(t, "Cut", d.Cut(2), api.OK)
		is(t, "Append", d.Append("a", []byte("12")), api.OK)
		is(t, "Append", d.Append("a", []byte("3")), api.OK)
		is(t, "Append", d.Append("a", []byte("4")), api.ErrDisk)
		is(t, "Sync", d.Sync(), api.ErrDisk)
		d.Crash(p + 4)
		reads(t, d, "a", want)
	}
}
