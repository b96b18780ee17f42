package kv_test

import (
	"bytes"
	"encoding/binary"
	"fmt"
	"math"
	"math/rand"
	"reflect"
	"slices"
	"testing"

	"thermograph/api"
	"thermograph/disk"
	"thermograph/kv"
	"thermograph/placement"
)

func want[T comparable](t *testing.T, what string, got, want T) {
	t.Helper()
	if got != want {
		t.Errorf("%s: got %v, want %v", what, got, want)
	}
}

// versions are placements that follow one another, from version 1 on.
func versions(t *testing.T) []api.Placement {
	t.Helper()
	p, err := placement.Init([]int{0, 1, 2}, 2)
	l := []api.Placement{p}
	for _, change := range []func(p api.Placement) (api.Placement, api.Errno){
		func(p api.Placement) (api.Placement, api.Errno) { return placement.Add(p, 7) },
		func(p api.Placement) (api.Placement, api.Errno) { return placement.Done(p, 0, 7) },
		func(p api.Placement) (api.Placement, api.Errno) { return placement.Replace(p, 1, 5) },
		func(p api.Placement) (api.Placement, api.Errno) { return placement.Done(p, 1, 5) },
	} {
		if err != api.OK {
			t.Fatal(err)
		}
		p, err = change(p)
		l = append(l, p)
	}
	if err != api.OK {
		t.Fatal(err)
	}
	return l
}

func plain(p api.Placement) []byte {
	var b []byte
	num := func(n int) { b = binary.AppendUvarint(b, uint64(n)) }
	num(p.Version)
	num(len(p.Nodes))
	for _, n := range p.Nodes {
		num(n)
	}
	num(len(p.Shards))
	for _, owners := range p.Shards {
		num(len(owners))
		for _, o := range owners {
			num(o.Node)
			num(o.State)
			num(o.From + 1)
		}
	}
	return b
}

func has(t *testing.T, s *kv.Store, p api.Placement) {
	t.Helper()
	got, ok := s.Get()
	if !ok || !reflect.DeepEqual(got, p) {
		t.Errorf("Get: got %v, %v, want %v", got, ok, p)
	}
}

func hasNone(t *testing.T, s *kv.Store) {
	t.Helper()
	got, ok := s.Get()
	if ok || !reflect.DeepEqual(got, api.Placement{}) {
		t.Errorf("Get: got %v, %v", got, ok)
	}
}

func opened(t *testing.T, d *disk.Disk) *kv.Store {
	t.Helper()
	ops, pending := d.Ops(), d.Pending()
	s := kv.Open(d)
	if d.Ops() != ops || d.Pending() != pending {
		t.Error("Open makes a raw call")
	}
	return s
}

// P15.1

func TestEncode(t *testing.T) {
	l := versions(t)
	b, err := kv.Encode(l[1])
	want(t, "error", err, api.OK)
	// version 2; 4 nodes; 2 shards: 0 Leaving, 1, 2, 7 Initializing from 0; then 0, 1, 2
	want(t, "bytes", fmt.Sprintf("%x", b), "02"+"0400010207"+"02"+"04"+"000300"+"010200"+"020200"+"070101"+"03"+"000200"+"010200"+"020200")
	for _, p := range l {
		p.Version = api.MaxTime - p.Version
		b, err := kv.Encode(p)
		if err != api.OK || !bytes.Equal(b, plain(p)) {
			t.Errorf("got %x, %v, want %x", b, err, plain(p))
		}
	}
	for _, p := range []api.Placement{{}, {Version: 1, Nodes: []int{0, 1, 2}}, {Version: api.MaxTime + 1, Nodes: l[0].Nodes, Shards: l[0].Shards}} {
		b, err := kv.Encode(p)
		want(t, "error", err, api.ErrForm)
		want(t, "bytes", len(b), 0)
	}
}

func refused(t *testing.T, what string, b []byte) {
	t.Helper()
	if p, err := kv.Decode(b); err != api.ErrForm || !reflect.DeepEqual(p, api.Placement{}) {
		t.Errorf("%s: %x: got %v, %v", what, b, p, err)
	}
}

func TestDecode(t *testing.T) {
	for _, p := range versions(t) {
		b := plain(p)
		keep := bytes.Clone(b)
		got, err := kv.Decode(b)
		if err != api.OK || !reflect.DeepEqual(got, p) {
			t.Errorf("got %v, %v, want %v", got, err, p)
		}
		want(t, "the bytes", string(b), string(keep))
		for i := range b {
			refused(t, "cut", b[:i])
			refused(t, "a long number", slices.Concat(b[:i], []byte{b[i] | 0x80, 0}, b[i+1:]))
			refused(t, "a huge number", slices.Concat(b[:i], binary.AppendUvarint(nil, math.MaxUint64), b[i+1:]))
			refused(t, "a great number", slices.Concat(b[:i], binary.AppendUvarint(nil, math.MaxInt64), b[i+1:]))
		}
		refused(t, "longer", append(bytes.Clone(b), 0))
		b[0] = 0
		refused(t, "not valid", b)
	}
}

func TestDecodeOfAnyBytes(t *testing.T) {
	r := rand.New(rand.NewSource(1))
	l := versions(t)
	for range 20000 {
		b := plain(l[r.Intn(len(l))])
		for range 1 + r.Intn(2) {
			b[r.Intn(len(b))] ^= 1 << r.Intn(8)
		}
		p, err := kv.Decode(b)
		if err != api.OK {
			want(t, "error", err, api.ErrForm)
		} else if placement.Check(p) != api.OK || !bytes.Equal(plain(p), b) {
			t.Fatalf("%x is taken for %v", b, p)
		}
	}
}

// P15.2

func TestOpen(t *testing.T) {
	l := versions(t)
	d := disk.New(1 << 16)
	hasNone(t, opened(t, d))
	d.Append("place.new", string(plain(l[2])))
	hasNone(t, opened(t, d))
	d.Append("place", string(plain(l[1])))
	has(t, opened(t, d), l[1])
	d.Append("place", "\x00")
	hasNone(t, opened(t, d))
	d.Remove("place")
	d.Append("place", "")
	hasNone(t, opened(t, d))
	d.Crash(0, 0)
	hasNone(t, opened(t, d))
}

func TestSince(t *testing.T) {
	l := versions(t)
	d := disk.New(1 << 16)
	s := opened(t, d)
	for _, v := range []int{0, -1, math.MinInt, math.MaxInt} {
		p, ok := s.Since(v)
		want(t, "none", ok, false)
		want(t, "none", p.Version, 0)
	}
	want(t, "Set", s.Set(0, l[0]), api.OK)
	want(t, "Set", s.Set(1, l[1]), api.OK)
	for _, v := range []int{math.MinInt, -1, 0, 1} {
		p, ok := s.Since(v)
		if !ok || !reflect.DeepEqual(p, l[1]) {
			t.Errorf("Since(%d): got %v, %v", v, p, ok)
		}
	}
	for _, v := range []int{2, 3, math.MaxInt} {
		p, ok := s.Since(v)
		if ok || !reflect.DeepEqual(p, api.Placement{}) {
			t.Errorf("Since(%d): got %v, %v", v, p, ok)
		}
	}
}

func TestMemoryIsApart(t *testing.T) {
	l := versions(t)
	s := opened(t, disk.New(1<<16))
	p := versions(t)[0]
	s.Set(0, p)
	p.Nodes[0], p.Shards[0][0].Node, p.Shards[1] = 9, 9, nil
	has(t, s, l[0])
	for _, q := range []api.Placement{first(s.Get()), first(s.Since(0))} {
		q.Nodes[0], q.Shards[0][0].Node, q.Shards[1] = 9, 9, nil
		has(t, s, l[0])
	}
}

func first(p api.Placement, ok bool) api.Placement { return p }

// P15.3

func TestSet(t *testing.T) {
	l := versions(t)
	d := disk.New(1 << 16)
	s := opened(t, d)
	hasNone(t, s)
	want(t, "the next but one", s.Set(0, l[1]), api.ErrStale)
	want(t, "of another", s.Set(1, l[1]), api.ErrStale)
	want(t, "no placement", s.Set(0, api.Placement{}), api.ErrForm)
	want(t, "no placement, and of another", s.Set(5, api.Placement{Version: 1}), api.ErrForm)
	want(t, "raw calls", d.Ops(), 0)
	hasNone(t, s)
	want(t, "Set", s.Set(0, l[0]), api.OK)
	want(t, "raw calls", d.Ops(), 4)
	want(t, "synced", d.Pending(), 0)
	has(t, s, l[0])
	want(t, "again", s.Set(0, l[0]), api.ErrStale)
	for _, expect := range []int{-1, 0, 2, math.MinInt, math.MaxInt} {
		want(t, "of another", s.Set(expect, l[1]), api.ErrStale)
	}
	want(t, "the same version", s.Set(1, l[0]), api.ErrStale)
	want(t, "the next but one", s.Set(1, l[2]), api.ErrStale)
	for i, p := range l[1:] {
		want(t, "Set", s.Set(i+1, p), api.OK)
		has(t, s, p)
		has(t, opened(t, d), p)
	}
	if got := d.Names(); !slices.Equal(got, []string{"place"}) {
		t.Error(got)
	}
	text, _ := d.Read("place")
	want(t, "the file", text, string(plain(l[4])))
}

func TestSetStepByStep(t *testing.T) {
	l := versions(t)
	whole := disk.New(1 << 16)
	opened(t, whole).Set(0, l[0])
	whole.Append("place.new", "left over")
	whole.Sync()
	old, fresh := string(plain(l[0])), string(plain(l[1]))
	for n, c := range []struct {
		all, none map[string]string // what is there if all of the unsynced changes is kept, and if none is
	}{
		{map[string]string{"place": old, "place.new": "left over"}, map[string]string{"place": old, "place.new": "left over"}},
		{map[string]string{"place": old}, map[string]string{"place": old, "place.new": "left over"}},
		{map[string]string{"place": old, "place.new": fresh}, map[string]string{"place": old, "place.new": "left over"}},
		{map[string]string{"place": old, "place.new": fresh}, map[string]string{"place": old, "place.new": fresh}},
		{map[string]string{"place": fresh}, map[string]string{"place": old, "place.new": fresh}},
		{map[string]string{"place": fresh}, map[string]string{"place": fresh}},
	} {
		for keep, files := range map[int]map[string]string{math.MaxInt: c.all, 0: c.none} {
			d := whole.Clone()
			s := opened(t, d)
			d.Cut(n, keep, 0)
			if n == 5 {
				want(t, "Set", s.Set(1, l[1]), api.OK)
				has(t, s, l[1])
				want(t, "raw calls", d.Sync(), api.ErrDead)
			} else {
				want(t, "Set", s.Set(1, l[1]), api.ErrDead)
				has(t, s, l[0])
			}
			want(t, "files", len(d.Names()), len(files))
			for name, text := range files {
				got, _ := d.Read(name)
				want(t, fmt.Sprint(n, " calls: ", name), got, text)
			}
		}
	}
}

func TestSetWithoutRoom(t *testing.T) {
	l := versions(t)
	need := len(plain(l[0])) + len(plain(l[1]))
	for _, left := range []string{"", "left over, and longer than a placement would be: it has to go before there is room"} {
		d := disk.New(len(plain(l[0])) + max(len(left), len(plain(l[1]))-1))
		s := opened(t, d)
		want(t, "Set", s.Set(0, l[0]), api.OK)
		if left != "" {
			d.Append("place.new", left)
			d.Sync()
			want(t, "room", s.Set(1, l[1]), api.OK)
			continue
		}
		ops := d.Ops()
		want(t, "Set", s.Set(1, l[1]), api.ErrFull)
		want(t, "a sync", d.Ops()-ops, 1)
		has(t, s, l[0])
		has(t, opened(t, d), l[0])
		d.Append("place.new", "x")
		d.Sync()
		ops = d.Ops()
		want(t, "Set", s.Set(1, l[1]), api.ErrFull)
		want(t, "a remove and a sync", d.Ops()-ops, 2)
		want(t, "synced", d.Pending(), 0)
		if got := d.Names(); !slices.Equal(got, []string{"place"}) {
			t.Error(got)
		}
	}
	d := disk.New(need)
	s := opened(t, d)
	want(t, "Set", s.Set(0, l[0]), api.OK)
	want(t, "just enough", s.Set(1, l[1]), api.OK)
	d.Cut(0, 0, 0)
	d.Append("x", "")
	want(t, "dead", s.Set(2, l[2]), api.ErrFull) // full comes before dead
	d = disk.New(1 << 16)
	s = opened(t, d)
	d.Crash(0, 0)
	want(t, "dead", s.Set(0, l[0]), api.ErrDead)
	hasNone(t, s)
	d.Power()
	want(t, "with power again", s.Set(0, l[0]), api.OK)
	has(t, s, l[0])
}

// P15.4

func TestALossLeavesOneOfTheTwo(t *testing.T) {
	l := versions(t)
	for n := range 7 {
		for keep := range 4 {
			for part := range 30 {
				d := disk.New(1 << 16)
				s := opened(t, d)
				at := 0
				for i := range l[:3] {
					want(t, "Set", s.Set(i, l[i]), api.OK)
					at++
				}
				d.Cut(n, keep, part)
				err := s.Set(3, l[3])
				d.Power()
				s = opened(t, d)
				got, ok := s.Get()
				if !ok || !reflect.DeepEqual(got, l[3]) && (err == api.OK || !reflect.DeepEqual(got, l[2])) {
					t.Fatalf("%d %d %d: %v: got %v", n, keep, part, err, got)
				}
				next := l[got.Version]
				want(t, "Set", s.Set(got.Version, next), api.OK)
				has(t, opened(t, d), next)
			}
		}
	}
}

func TestOneOfTwoSucceeds(t *testing.T) {
	l := versions(t)
	s := opened(t, disk.New(1<<16))
	s.Set(0, l[0])
	other, _ := placement.Add(l[0], 4)
	want(t, "the first", s.Set(1, other), api.OK)
	want(t, "the second", s.Set(1, l[1]), api.ErrStale)
	has(t, s, other)
}
