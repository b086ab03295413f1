package disk_test

import (
	"fmt"
	"maps"
	"math"
	"math/rand"
	"slices"
	"strings"
	"testing"

	"coxswain/api"
	"coxswain/disk"
)

// unit is one unit of what was done: to have one for each byte of an Append makes a crash a matter of counting.
type unit struct {
	op       string
	name, to string
	data     string
}

// model is a disk as the chapter's words tell it, worked out anew at each question.
type model struct {
	durable map[string]string
	units   []unit
	cut     bool // a Cut counts
	left    int
}

func newModel() *model { return &model{durable: map[string]string{}} }

// after is the files when the first p units were done.
func (m *model) after(p int) map[string]string {
	files := maps.Clone(m.durable)
	for _, u := range m.units[:p] {
		switch u.op {
		case "append":
			files[u.name] += u.data
		case "put":
			files[u.name] = u.data
		case "remove":
			delete(files, u.name)
		case "rename":
			if u.name != u.to {
				files[u.to] = files[u.name]
				delete(files, u.name)
			}
		}
	}
	return files
}

func (m *model) files() map[string]string { return m.after(len(m.units)) }

func allowed(name string) bool {
	return len(name) > 0 && len(name) < 33 && strings.Trim(name, "abcdefghijklmnopqrstuvwxyz0123456789.-") == ""
}

func (m *model) isCut() bool { return m.cut && m.left <= 0 }

// write does an Append, a Put, a Remove or a Rename.
func (m *model) write(op, name, to, data string) api.Errno {
	files := m.files()
	old, there := files[name]
	size := len(data)
	if op == "append" {
		size += len(old)
	}
	makes := op == "append" || op == "put"
	switch {
	case !allowed(name) || op == "rename" && !allowed(to):
		return api.ErrArg
	case m.isCut():
		return api.ErrDisk
	case !makes && !there:
		return api.ErrName
	case makes && (size > 1<<20 || !there && len(files) >= 64):
		return api.ErrFull
	}
	m.left--
	if op != "append" || data == "" {
		m.units = append(m.units, unit{op, name, to, data})
		return api.OK
	}
	for i := range len(data) {
		m.units = append(m.units, unit{op, name, to, data[i : i+1]})
	}
	return api.OK
}

func (m *model) sync() api.Errno {
	if m.isCut() {
		return api.ErrDisk
	}
	m.left--
	m.durable, m.units = m.files(), nil
	return api.OK
}

func (m *model) setCut(n int) api.Errno {
	if n < 0 || n > 1<<40 {
		return api.ErrArg
	}
	m.cut, m.left = true, n
	return api.OK
}

func (m *model) crash(pick int) {
	p := pick % (len(m.units) + 1)
	if p < 0 {
		p += len(m.units) + 1
	}
	m.durable, m.units, m.cut = m.after(p), nil, false
}

// holds asks a disk for all that it tells, and holds it against the files that should be.
func holds(t *testing.T, d *disk.Disk, want map[string]string, what string) {
	t.Helper()
	if got := d.List(); !slices.Equal(got, slices.Sorted(maps.Keys(want))) {
		t.Fatalf("%s: List() = %q, not %q", what, got, slices.Sorted(maps.Keys(want)))
	}
	for name, data := range want {
		if got, e := d.Read(name); string(got) != data || e != api.OK {
			t.Fatalf("%s: Read(%q) = %s, %d, not %s", what, name, short(string(got)), e, short(data))
		}
	}
}

func short(s string) string {
	if len(s) > 100 {
		return fmt.Sprintf("%q.. (%d bytes)", s[:100], len(s))
	}
	return fmt.Sprintf("%q", s)
}

// pair is a disk and its model, which are told the same things.
type pair struct {
	t    *testing.T
	d    *disk.Disk
	m    *model
	told []string // what was told, for the one who reads of a fault
}

func newPair(t *testing.T) *pair {
	return &pair{t: t, d: disk.New(), m: newModel()}
}

func (p *pair) write(op, name, to, data string) {
	p.t.Helper()
	var e api.Errno
	switch op {
	case "append":
		e = p.d.Append(name, []byte(data))
	case "put":
		e = p.d.Put(name, []byte(data))
	case "remove":
		e = p.d.Remove(name)
	case "rename":
		e = p.d.Rename(name, to)
	}
	p.check(e, p.m.write(op, name, to, data), fmt.Sprintf("%s %q %q %s", op, name, to, short(data)))
}

func (p *pair) sync() {
	p.t.Helper()
	p.check(p.d.Sync(), p.m.sync(), "sync")
}

func (p *pair) cut(n int) {
	p.t.Helper()
	p.check(p.d.Cut(n), p.m.setCut(n), fmt.Sprintf("cut %d", n))
}

func (p *pair) crash(pick int) {
	p.t.Helper()
	p.d.Crash(pick)
	p.m.crash(pick)
	p.check(api.OK, api.OK, fmt.Sprintf("crash %d", pick))
}

func (p *pair) read(name string) {
	p.t.Helper()
	want, e := "", api.OK
	if data, ok := p.m.files()[name]; ok {
		want = data
	} else if e = api.ErrName; !allowed(name) {
		e = api.ErrArg
	}
	got, f := p.d.Read(name)
	if string(got) != want {
		p.t.Fatalf("%v\nRead(%q) = %s, not %s", p.told, name, short(string(got)), short(want))
	}
	p.check(f, e, fmt.Sprintf("read %q", name))
}

func (p *pair) check(e, want api.Errno, what string) {
	p.t.Helper()
	p.told = append(p.told, what)
	if e != want {
		p.t.Fatalf("%s: the last one answers %d, not %d", strings.Join(p.told, "\n"), e, want)
	}
	holds(p.t, p.d, p.m.files(), strings.Join(p.told, "\n"))
}

// roll does one thing by chance; of names those that may be come often.
func (p *pair) roll(r *rand.Rand, names []string, ops string) {
	p.t.Helper()
	name, to := names[r.Intn(len(names))], names[r.Intn(len(names))]
	data := string([]byte{byte(r.Intn(256)), 0, byte(r.Intn(256)), 'x', 255}[:r.Intn(6)])
	switch ops[r.Intn(len(ops))] {
	case 'a':
		p.write("append", name, "", data)
	case 'p':
		p.write("put", name, "", data)
	case 'd':
		p.write("remove", name, "", "")
	case 'm':
		p.write("rename", name, to, "")
	case 's':
		p.sync()
	case 'r':
		p.read(name)
	case 'k':
		p.cut(r.Intn(9) - 1)
	case 'c':
		picks := []int{r.Intn(40), -r.Intn(40), 0, -1, r.Int(), -r.Int(), math.MinInt, math.MaxInt}
		p.crash(picks[r.Intn(len(picks))])
	}
}

// TestChance: P2.1 to P2.3: whatever is asked, one thing behind the other, is answered as the words say.
func TestChance(t *testing.T) {
	few := []string{"a", "b", "c", "a", "b", "a-.0", strings.Repeat("z9", 16), "", "A", "a b", strings.Repeat("z", 33)}
	for seed := range 400 {
		r, p := rand.New(rand.NewSource(int64(seed))), newPair(t)
		for range 100 {
			p.roll(r, few, "aaaaappddmmmsrkc")
		}
	}
}

// TestChanceManyFiles: the same where the disk is often full.
func TestChanceManyFiles(t *testing.T) {
	var many []string
	for i := range 72 {
		many = append(many, fmt.Sprintf("f%d", i))
	}
	for seed := range 10 {
		r, p := rand.New(rand.NewSource(int64(seed))), newPair(t)
		for _, i := range r.Perm(len(many)) {
			p.write("put", many[i], "", "")
		}
		for range 300 {
			p.roll(r, many, "aaaaaaaappppppppddmmmsrc")
		}
	}
}

// TestChanceLongFiles: the same where files are often as long as may be.
func TestChanceLongFiles(t *testing.T) {
	long := strings.Repeat("0123456789abcde\n", 1<<16)
	for seed := range 8 {
		r, p := rand.New(rand.NewSource(int64(seed))), newPair(t)
		for range 12 {
			name := []string{"a", "b"}[r.Intn(2)]
			p.write("put", name, "", long[r.Intn(4):])
			p.write("append", name, "", long[:r.Intn(4)])
			p.roll(r, []string{"a", "b"}, "aaamdsc")
		}
	}
}
