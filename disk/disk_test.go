package disk_test

import (
	"maps"
	"math"
	"math/rand"
	"slices"
	"strings"
	"testing"

	"thermograph/api"
	"thermograph/disk"
)

func want[T comparable](t *testing.T, what string, got, want T) {
	t.Helper()
	if got != want {
		t.Errorf("%s: got %v, want %v", what, got, want)
	}
}

func content(t *testing.T, d *disk.Disk, name, text string) {
	t.Helper()
	got, ok := d.Read(name)
	if !ok || got != text {
		t.Errorf("Read(%q): got %q, %v, want %q", name, got, ok, text)
	}
}

func names(t *testing.T, d *disk.Disk, want ...string) {
	t.Helper()
	if got := d.Names(); !slices.Equal(got, want) {
		t.Errorf("Names: got %q, want %q", got, want)
	}
}

// P1.1

func TestNew(t *testing.T) {
	d := disk.New(3)
	names(t, d)
	want(t, "Dead", d.Dead(), false)
	want(t, "Used", d.Used(), 0)
	want(t, "Pending", d.Pending(), 0)
	want(t, "Ops", d.Ops(), 0)
	want(t, "fits exactly", d.Append("a", "abc"), api.OK)
	want(t, "one too many", d.Append("a", "d"), api.ErrFull)
	want(t, "nothing fits always", d.Append("b", ""), api.OK)
}

func TestNegativeRoom(t *testing.T) {
	for _, room := range []int{0, -1, math.MinInt} {
		d := disk.New(room)
		want(t, "empty", d.Append("a", ""), api.OK)
		want(t, "full", d.Append("a", "x"), api.ErrFull)
	}
	d := disk.New(math.MaxInt)
	want(t, "much room", d.Append("a", "x"), api.OK)
}

// P1.2

func TestNamesThatAreNotValid(t *testing.T) {
	long := strings.Repeat("n", api.MaxFile)
	d := disk.New(100)
	want(t, "longest", d.Append(long, "x"), api.OK)
	want(t, "one byte", d.Append("\x00", "x"), api.OK)
	for _, bad := range []string{"", long + "n"} {
		want(t, "Append", d.Append(bad, "x"), api.ErrName)
		want(t, "Remove", d.Remove(bad), api.ErrName)
		want(t, "Rename from", d.Rename(bad, "ok"), api.ErrName)
		want(t, "Rename to", d.Rename(long, bad), api.ErrName)
	}
	want(t, "Ops", d.Ops(), 2)
	want(t, "Pending", d.Pending(), 2)
}

func TestErrorsInOrder(t *testing.T) {
	d := disk.New(2)
	d.Append("a", "x")
	d.Sync()
	d.Crash(0, 0)
	want(t, "name before full", d.Append("", "xxx"), api.ErrName)
	want(t, "name before none", d.Remove(""), api.ErrName)
	want(t, "name before none", d.Rename("none", ""), api.ErrName)
	want(t, "full before dead", d.Append("a", "xx"), api.ErrFull)
	want(t, "none before dead", d.Remove("b"), api.ErrNone)
	want(t, "none before dead", d.Rename("b", "a"), api.ErrNone)
	want(t, "dead", d.Append("a", "x"), api.ErrDead)
	want(t, "dead", d.Remove("a"), api.ErrDead)
	want(t, "dead", d.Rename("a", "b"), api.ErrDead)
	want(t, "dead", d.Sync(), api.ErrDead)
	want(t, "Ops", d.Ops(), 2)
}

func TestErrorsDoNotStrikeAPlannedLoss(t *testing.T) {
	d := disk.New(2)
	d.Append("a", "x")
	d.Cut(0, 9, 9)
	d.Append("a", "xx")
	d.Append("", "")
	d.Remove("none")
	d.Rename("none", "a")
	want(t, "Dead", d.Dead(), false)
	want(t, "Sync", d.Sync(), api.ErrDead)
	want(t, "Dead", d.Dead(), true)
	content(t, d, "a", "x")
}

func TestErrorsDoNotCount(t *testing.T) {
	d := disk.New(2)
	d.Cut(2, 0, 0)
	d.Append("a", "xxx")
	d.Remove("none")
	want(t, "first", d.Append("a", "x"), api.OK)
	d.Append("a", "xx")
	want(t, "second", d.Sync(), api.OK)
	want(t, "third", d.Sync(), api.ErrDead)
	want(t, "Ops", d.Ops(), 2)
}

func TestPendingChangesAreTakenIntoAccount(t *testing.T) {
	d := disk.New(10)
	d.Append("a", "x")
	want(t, "remove a new file", d.Remove("a"), api.OK)
	want(t, "remove it again", d.Remove("a"), api.ErrNone)
	want(t, "rename it", d.Rename("a", "b"), api.ErrNone)
	want(t, "room is free again", d.Append("b", "0123456789"), api.OK)
	want(t, "rename", d.Rename("b", "c"), api.OK)
	want(t, "old name", d.Remove("b"), api.ErrNone)
	want(t, "Pending", d.Pending(), 4)
}

func TestRename(t *testing.T) {
	d := disk.New(10)
	d.Append("a", "abc")
	d.Append("b", "12345")
	want(t, "replace", d.Rename("a", "b"), api.OK)
	names(t, d, "b")
	content(t, d, "b", "abc")
	want(t, "Used", d.Used(), 3)
	want(t, "room", d.Append("b", "1234567"), api.OK)
	want(t, "to itself", d.Rename("b", "b"), api.OK)
	content(t, d, "b", "abc1234567")
	want(t, "Used", d.Used(), 10)
	want(t, "Pending", d.Pending(), 5)
	want(t, "Ops", d.Ops(), 5)
	d.Crash(5, 0)
	content(t, d, "b", "abc1234567")
}

func TestSync(t *testing.T) {
	d := disk.New(10)
	want(t, "nothing to sync", d.Sync(), api.OK)
	d.Append("a", "a")
	d.Append("b", "b")
	d.Remove("a")
	want(t, "Pending", d.Pending(), 3)
	want(t, "Sync", d.Sync(), api.OK)
	want(t, "Pending", d.Pending(), 0)
	want(t, "Ops", d.Ops(), 5)
	d.Crash(0, 0)
	names(t, d, "b")
}

// P1.3

func TestReadNamesUsed(t *testing.T) {
	d := disk.New(100)
	for _, n := range []string{"b", "a", "\xff", "ab", "B"} {
		d.Append(n, n)
	}
	names(t, d, "B", "a", "ab", "b", "\xff")
	want(t, "Used", d.Used(), 6)
	s, ok := d.Read("c")
	want(t, "no file", s, "")
	want(t, "no file", ok, false)
	_, ok = d.Read("")
	want(t, "no name", ok, false)
	d.Append("e", "")
	content(t, d, "e", "")
	d.Append("a", "bc")
	content(t, d, "a", "abc")
	d.Crash(2, 0)
	names(t, d, "a", "b")
	content(t, d, "a", "a")
	want(t, "Used", d.Used(), 2)
}

func TestReadStays(t *testing.T) {
	d := disk.New(100)
	d.Append("a", "abc")
	s, _ := d.Read("a")
	d.Append("a", "def")
	want(t, "text read before", s, "abc")
	n := d.Names()
	n[0] = "z"
	names(t, d, "a")
}

// P1.4

func TestCut(t *testing.T) {
	for n := range 4 {
		d := disk.New(100)
		d.Cut(n, math.MaxInt, 0)
		for i := range 6 {
			err := api.OK
			if i >= n {
				err = api.ErrDead
			}
			want(t, "Append", d.Append("a", "x"), err)
		}
		s, _ := d.Read("a")
		want(t, "length", len(s), n)
		want(t, "Dead", d.Dead(), true)
		want(t, "Ops", d.Ops(), n)
	}
}

func TestCutNegativeAndReplaced(t *testing.T) {
	d := disk.New(100)
	d.Cut(5, 0, 0)
	d.Cut(math.MinInt, 0, 0)
	want(t, "Append", d.Append("a", "x"), api.ErrDead)
	names(t, d)
	d.Power()
	d.Cut(0, 0, 0)
	d.Cut(1, 9, 0)
	want(t, "Append", d.Append("a", "x"), api.OK)
	want(t, "Dead yet", d.Dead(), false)
	want(t, "Append", d.Append("a", "x"), api.ErrDead)
	content(t, d, "a", "x")
}

func TestCutStrikesAtTheCallAfter(t *testing.T) {
	d := disk.New(100)
	d.Append("a", "abc")
	d.Append("b", "def")
	d.Cut(1, 1, 2)
	want(t, "Append", d.Append("c", "ghi"), api.OK)
	want(t, "alive", d.Dead(), false)
	want(t, "Remove", d.Remove("a"), api.ErrDead)
	content(t, d, "a", "abc")
	content(t, d, "b", "de")
	names(t, d, "a", "b")
}

func TestCrashKeeps(t *testing.T) {
	for keep := -2; keep < 8; keep++ {
		d := disk.New(100)
		d.Append("s", "s")
		d.Sync()
		d.Append("a", "1")
		d.Append("a", "2")
		d.Rename("a", "b")
		d.Remove("s")
		d.Append("c", "3")
		d.Crash(keep, 0)
		want(t, "Dead", d.Dead(), true)
		want(t, "Pending", d.Pending(), 0)
		switch max(0, min(keep, 5)) {
		case 0:
			names(t, d, "s")
		case 1:
			names(t, d, "a", "s")
			content(t, d, "a", "1")
		case 2:
			names(t, d, "a", "s")
			content(t, d, "a", "12")
		case 3:
			names(t, d, "b", "s")
			content(t, d, "b", "12")
		case 4:
			names(t, d, "b")
		case 5:
			names(t, d, "b", "c")
		}
	}
}

func TestCrashPart(t *testing.T) {
	cases := []struct {
		part int
		text string
		ok   bool
	}{
		{-1, "", false}, {0, "", false}, {1, "d", true}, {2, "de", true}, {3, "def", true}, {4, "def", true}, {math.MaxInt, "def", true}, {math.MinInt, "", false},
	}
	for _, c := range cases {
		d := disk.New(100)
		d.Append("a", "abc")
		d.Append("n", "def")
		d.Append("n", "ghi")
		d.Crash(1, c.part)
		got, ok := d.Read("n")
		want(t, "new file", got, c.text)
		want(t, "new file", ok, c.ok)
		content(t, d, "a", "abc")
	}
}

func TestCrashPartOfOtherChanges(t *testing.T) {
	d := disk.New(100)
	d.Append("a", "abc")
	d.Sync()
	d.Rename("a", "b")
	d.Append("c", "x")
	d.Crash(0, math.MaxInt)
	names(t, d, "a")
	d.Power()
	d.Remove("a")
	d.Append("c", "x")
	d.Crash(0, math.MaxInt)
	names(t, d, "a")
	d.Power()
	d.Append("e", "")
	d.Crash(0, 1)
	names(t, d, "a", "e")
}

func TestCrashWhenOff(t *testing.T) {
	d := disk.New(100)
	d.Append("a", "abc")
	d.Sync()
	d.Crash(0, 0)
	d.Cut(3, 0, 0)
	d.Crash(5, 5)
	want(t, "Dead", d.Dead(), true)
	content(t, d, "a", "abc")
	want(t, "Ops", d.Ops(), 2)
}

func TestCrashCancelsAPlannedLoss(t *testing.T) {
	d := disk.New(100)
	d.Cut(1, 0, 0)
	d.Crash(0, 0)
	d.Power()
	for range 5 {
		want(t, "Sync", d.Sync(), api.OK)
	}
}

func TestUsedAfterALoss(t *testing.T) {
	d := disk.New(4)
	d.Append("a", "abcd")
	d.Crash(0, 3)
	want(t, "Used", d.Used(), 3)
	d.Power()
	want(t, "too much", d.Append("a", "12"), api.ErrFull)
	want(t, "fits", d.Append("a", "1"), api.OK)
	content(t, d, "a", "abc1")
}

// P1.5

func TestPower(t *testing.T) {
	d := disk.New(100)
	d.Cut(0, 0, 0)
	d.Power()
	want(t, "cancelled", d.Append("a", "x"), api.OK)
	d.Crash(0, 0)
	d.Cut(0, 0, 0)
	want(t, "still off", d.Append("a", "x"), api.ErrDead)
	d.Power()
	want(t, "Dead", d.Dead(), false)
	want(t, "on", d.Append("a", "x"), api.OK)
	d.Power()
	want(t, "Pending", d.Pending(), 1)
}

func TestClone(t *testing.T) {
	d := disk.New(10)
	d.Append("a", "a")
	d.Sync()
	d.Append("b", "bcd")
	d.Cut(2, 0, 2)
	c := d.Clone()
	want(t, "Used", c.Used(), 4)
	want(t, "Ops", c.Ops(), 3)
	want(t, "Pending", c.Pending(), 1)
	want(t, "room", c.Append("a", "1234567"), api.ErrFull)

	want(t, "c", c.Append("c", "c"), api.OK)
	want(t, "c", c.Remove("a"), api.OK)
	want(t, "c", c.Sync(), api.ErrDead)
	names(t, c, "a", "b")
	content(t, c, "b", "bc")
	want(t, "c is dead", c.Dead(), true)
	dead := c.Clone()
	want(t, "its clone too", dead.Dead(), true)

	want(t, "d is not", d.Dead(), false)
	names(t, d, "a", "b")
	want(t, "Pending", d.Pending(), 1)
	want(t, "d", d.Append("d", "d"), api.OK)
	want(t, "d", d.Sync(), api.OK)
	want(t, "d", d.Sync(), api.ErrDead)
	names(t, d, "a", "b", "d")
	names(t, c, "a", "b")
	want(t, "Ops", d.Ops(), 5)
	want(t, "Ops", c.Ops(), 5)
}

func TestClonesArePendingApart(t *testing.T) {
	for n := range 9 {
		d := disk.New(100)
		for range n {
			d.Append("a", "a")
		}
		c := d.Clone()
		c.Append("c", "c")
		d.Append("d", "d")
		c.Crash(n+1, 0)
		d.Crash(n+1, 0)
		content(t, c, "c", "c")
		content(t, d, "d", "d")
		want(t, "files", len(c.Names())+len(d.Names()), 2+2*min(n, 1))
	}
}

// P1.6, and all of the above against a plain model

type op struct {
	kind     int
	name, to string
	s        string
}

func (o op) apply(m map[string]string, part int) {
	switch o.kind {
	case 0:
		m[o.name] += o.s[:min(len(o.s), part)]
	case 1:
		s := m[o.name]
		delete(m, o.name)
		m[o.to] = s
	case 2:
		delete(m, o.name)
	}
}

type model struct {
	room, ops        int
	synced           map[string]string
	pending          []op
	dead, cut        bool
	left, keep, part int
}

func (m *model) now() map[string]string {
	f := maps.Clone(m.synced)
	for _, o := range m.pending {
		o.apply(f, math.MaxInt)
	}
	return f
}

func used(f map[string]string) int {
	n := 0
	for _, s := range f {
		n += len(s)
	}
	return n
}

func (m *model) crash(keep, part int) {
	if m.dead {
		return
	}
	keep = max(0, min(keep, len(m.pending)))
	for _, o := range m.pending[:keep] {
		o.apply(m.synced, math.MaxInt)
	}
	if keep < len(m.pending) && m.pending[keep].kind == 0 && part > 0 {
		m.pending[keep].apply(m.synced, part)
	}
	m.pending, m.dead, m.cut = nil, true, false
}

func (m *model) raw(o op) api.Errno {
	f := m.now()
	_, there := f[o.name]
	if o.kind < 3 && o.name == "" || o.kind == 1 && o.to == "" {
		return api.ErrName
	}
	if (o.kind == 1 || o.kind == 2) && !there {
		return api.ErrNone
	}
	if o.kind == 0 && used(f)+len(o.s) > m.room {
		return api.ErrFull
	}
	if !m.dead && m.cut && m.left == 0 {
		m.crash(m.keep, m.part)
	}
	if m.dead {
		return api.ErrDead
	}
	m.pending = append(m.pending, o)
	if o.kind == 3 {
		m.synced = m.now()
		m.pending = nil
	}
	m.ops++
	m.left--
	return api.OK
}

func (m *model) check(t *testing.T, d *disk.Disk) {
	t.Helper()
	f := m.now()
	if !slices.Equal(d.Names(), slices.Sorted(maps.Keys(f))) {
		t.Fatalf("Names: got %q, want %q", d.Names(), f)
	}
	for n, s := range f {
		if got, ok := d.Read(n); got != s || !ok {
			t.Fatalf("Read(%q): got %q, want %q", n, got, s)
		}
	}
	if d.Used() != used(f) || d.Pending() != len(m.pending) || d.Ops() != m.ops || d.Dead() != m.dead {
		t.Fatalf("got %d %d %d %v, want %d %d %d %v", d.Used(), d.Pending(), d.Ops(), d.Dead(), used(f), len(m.pending), m.ops, m.dead)
	}
}

func TestModel(t *testing.T) {
	for seed := range int64(300) {
		r := rand.New(rand.NewSource(seed))
		room := r.Intn(40)
		d, m := disk.New(room), &model{room: room, synced: map[string]string{}}
		name := func() string { return []string{"", "a", "b", "c", "a", "b", "c"}[r.Intn(7)] }
		for range 80 {
			o := op{kind: r.Intn(4), name: name(), to: name(), s: strings.Repeat("x", r.Intn(6))}
			switch k := r.Intn(14); {
			case k == 0:
				m.cut, m.left, m.keep, m.part = true, r.Intn(6), r.Intn(4)-1, r.Intn(5)-1
				d.Cut(m.left, m.keep, m.part)
			case k == 1:
				keep, part := r.Intn(4)-1, r.Intn(5)-1
				m.crash(keep, part)
				d.Crash(keep, part)
			case k < 4:
				m.dead, m.cut = false, false
				d.Power()
			case k == 4:
				old := d
				d = d.Clone()
				old.Append("a", "zz")
				old.Sync()
				old.Crash(0, 0)
			default:
				if got, want := call(d, o), m.raw(o); got != want {
					t.Fatalf("seed %d: %v: got %v, want %v", seed, o, got, want)
				}
			}
			m.check(t, d)
		}
	}
}

func call(d *disk.Disk, o op) api.Errno {
	switch o.kind {
	case 0:
		return d.Append(o.name, o.s)
	case 1:
		return d.Rename(o.name, o.to)
	case 2:
		return d.Remove(o.name)
	}
	return d.Sync()
}
