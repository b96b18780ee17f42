package shard_test

import (
	"fmt"
	"maps"
	"math"
	"math/rand"
	"slices"
	"strings"
	"testing"

	"thermograph/api"
	"thermograph/disk"
	"thermograph/fileset"
	"thermograph/shard"
	"thermograph/tsz"
)

func want[T comparable](t *testing.T, what string, got, want T) {
	t.Helper()
	if got != want {
		t.Errorf("%s: got %v, want %v", what, got, want)
	}
}

func list[T comparable](t *testing.T, what string, got []T, want ...T) {
	t.Helper()
	if !slices.Equal(got, want) {
		t.Errorf("%s: got %v, want %v", what, got, want)
	}
}

func pt(t int, v, s uint64) api.Point { return api.Point{T: t, V: v, S: s} }

func rng(from, to int) api.Range { return api.Range{From: from, To: to} }

func always() api.Range { return rng(math.MinInt, math.MaxInt) }

// space is the namespace of most tests.
func space() api.Space { return api.Space{Retention: 120, Block: 60, Future: 10} }

func opened(t *testing.T, d *disk.Disk) *shard.Shard {
	t.Helper()
	ops, pending := d.Ops(), d.Pending()
	s, err := shard.Open(d, 0, 1, space())
	if err != api.OK {
		t.Fatal(err)
	}
	if d.Ops() != ops || d.Pending() != pending {
		t.Error("Open makes a raw call")
	}
	return s
}

// put writes points of one series.
func put(t *testing.T, s *shard.Shard, id string, ps ...api.Point) {
	t.Helper()
	for _, p := range ps {
		want(t, "May", s.May(id, p), api.OK)
		want(t, "Write", s.Write(id, p), api.OK)
	}
}

func key(block, volume int) fileset.Key {
	return fileset.Key{Space: 0, Shard: 1, Block: block, Volume: volume}
}

func store(t *testing.T, d *disk.Disk, k fileset.Key, l ...api.Series) {
	t.Helper()
	if err := fileset.Write(d, k, l); err != api.OK {
		t.Fatal(err)
	}
}

func series(id string, ps ...api.Point) api.Series { return api.Series{ID: id, Points: ps} }

func meta(id string, block int, ps ...api.Point) api.Meta {
	sum, _ := tsz.Sum(ps)
	return api.Meta{ID: id, Block: block, Count: len(ps), Sum: sum}
}

func volume(t *testing.T, d *disk.Disk, k fileset.Key, l ...api.Series) {
	t.Helper()
	r, err := fileset.Open(d, k)
	if err != api.OK {
		t.Fatal(err)
	}
	var ids []string
	for _, s := range l {
		ids = append(ids, s.ID)
		got, _ := r.Read(s.ID)
		list(t, "the volume's "+s.ID, got, s.Points...)
	}
	list(t, "the volume's names", r.IDs(), ids...)
}

// P12.1

func TestOpen(t *testing.T) {
	good := api.Space{Block: 1}
	for _, c := range []struct {
		space, shard int
		s            api.Space
		err          api.Errno
	}{
		{0, 0, good, api.OK},
		{3, 7, api.Space{Retention: api.MaxTime, Block: api.MaxTime, Future: api.MaxTime}, api.OK},
		{-1, 0, good, api.ErrArg}, {4, 0, good, api.ErrArg}, {0, -1, good, api.ErrArg}, {0, 8, good, api.ErrArg},
		{0, 0, api.Space{}, api.ErrArg},
		{0, 0, api.Space{Block: -1}, api.ErrArg},
		{0, 0, api.Space{Block: api.MaxTime + 1}, api.ErrArg},
		{0, 0, api.Space{Block: 1, Retention: -1}, api.ErrArg},
		{0, 0, api.Space{Block: 1, Retention: api.MaxTime + 1}, api.ErrArg},
		{0, 0, api.Space{Block: 1, Future: -1}, api.ErrArg},
		{0, 0, api.Space{Block: 1, Future: api.MaxTime + 1}, api.ErrArg},
		{math.MinInt, math.MaxInt, good, api.ErrArg},
	} {
		s, err := shard.Open(disk.New(0), c.space, c.shard, c.s)
		want(t, fmt.Sprint(c.space, c.shard, c.s), err, c.err)
		want(t, "shard", s != nil, c.err == api.OK)
	}
}

func TestOpenFindsTheVolumes(t *testing.T) {
	d := disk.New(1 << 20)
	store(t, d, key(0, 1), series("a", pt(1, 1, 9)))
	store(t, d, key(0, 2), series("a", pt(2, 2, 2)))
	store(t, d, key(120, 7), series("a", pt(130, 3, 3)))
	store(t, d, fileset.Key{Space: 1, Shard: 1, Block: 180, Volume: 1}, series("a", pt(181, 1, 1)))
	store(t, d, fileset.Key{Space: 0, Shard: 2, Block: 180, Volume: 1}, series("a", pt(182, 1, 1)))
	store(t, d, fileset.Key{Space: 0, Shard: 0, Block: 180, Volume: 1}, series("a", pt(183, 1, 1)))
	store(t, d, key(180, 1), series("a", pt(184, 1, 1)))
	d.Remove("v0-1-180-1.bloom") // no valid volume
	s := opened(t, d)
	want(t, "Buffered", s.Buffered(), 0)
	list(t, "Volumes", s.Volumes(), 0, 120)
	list(t, "Read", s.Read("a", always()), pt(2, 2, 2), pt(130, 3, 3))
}

// P12.2

func TestWriteErrors(t *testing.T) {
	s := opened(t, disk.New(0))
	long := strings.Repeat("x", api.MaxID)
	for _, c := range []struct {
		id  string
		t   int
		err api.Errno
	}{
		{"", 0, api.ErrID}, {long + "x", 0, api.ErrID}, {"", -1, api.ErrID},
		{"a", -1, api.ErrArg}, {"a", api.MaxTime + 1, api.ErrArg}, {"a", math.MinInt, api.ErrArg}, {"a", math.MaxInt, api.ErrArg},
		{"a", 0, api.OK}, {long, api.MaxTime, api.OK}, {"\x00", 5, api.OK},
	} {
		n := s.Buffered()
		want(t, "May", s.May(c.id, pt(c.t, 1, 1)), c.err)
		want(t, "May changes nothing", s.Buffered(), n)
		want(t, "Write", s.Write(c.id, pt(c.t, 1, 1)), c.err)
		if c.err == api.OK {
			n++
		}
		want(t, "Buffered", s.Buffered(), n)
	}
}

func refuse(t *testing.T, s *shard.Shard, id string, p api.Point) {
	t.Helper()
	n := s.Buffered()
	want(t, "May", s.May(id, p), api.ErrMany)
	want(t, "Write", s.Write(id, p), api.ErrMany)
	want(t, "Buffered", s.Buffered(), n)
}

func TestManyNames(t *testing.T) {
	name := func(i int) string { return fmt.Sprint("s", i) }
	for _, stored := range []int{0, 100, 256} {
		d := disk.New(1 << 20)
		s := opened(t, d)
		for i := range stored {
			put(t, s, name(i), pt(5, 1, 1))
		}
		want(t, "Flush", s.Flush(0), api.OK)
		for i := range 256 { // those of the volume again, in the buffer too
			put(t, s, name(i), pt(6, 1, 1))
		}
		refuse(t, s, name(256), pt(7, 1, 1))
		put(t, s, name(255), pt(7, 1, 1))
		put(t, s, name(256), pt(60, 1, 1)) // in another block
		want(t, "Flush", s.Flush(0), api.OK)
		refuse(t, s, name(256), pt(8, 1, 1))
		put(t, s, name(0), pt(8, 1, 1))
	}
}

func TestManyNamesOfAVolume(t *testing.T) {
	d := disk.New(1 << 20)
	var l []api.Series
	for i := range 256 {
		l = append(l, series(fmt.Sprintf("s%03d", i), pt(5, 1, 1)))
	}
	l[7].Points = nil // a name without points takes its place in a volume
	store(t, d, key(0, 1), l...)
	s := opened(t, d)
	refuse(t, s, "other", pt(6, 1, 1))
	put(t, s, "s007", pt(6, 1, 1))
	want(t, "Flush", s.Flush(0), api.OK)
	list(t, "Read", s.Read("s007", always()), pt(6, 1, 1))
}

func TestManyTimes(t *testing.T) {
	long := api.Space{Retention: 0, Block: 1000}
	for _, stored := range []int{0, 200, 512} {
		d := disk.New(1 << 20)
		s, _ := shard.Open(d, 0, 1, long)
		for i := range stored {
			put(t, s, "a", pt(i, 1, 1))
		}
		want(t, "Flush", s.Flush(0), api.OK)
		for i := range 512 { // those of the volume again, in the buffer too
			put(t, s, "a", pt(i, 2, 2))
		}
		refuse(t, s, "a", pt(512, 1, 1))
		put(t, s, "a", pt(511, 3, 3))
		put(t, s, "a", pt(0, 0, 0)) // a point that loses
		put(t, s, "b", pt(512, 1, 1))
		put(t, s, "a", pt(1000, 1, 1)) // in another block
		want(t, "Flush", s.Flush(0), api.OK)
		want(t, "points", len(s.Block("a", 0)), 512)
		refuse(t, s, "a", pt(999, 1, 1))
		put(t, s, "a", pt(511, 4, 4))
	}
}

// P12.3

func TestRead(t *testing.T) {
	d := disk.New(1 << 20)
	s := opened(t, d)
	put(t, s, "a", pt(59, 1, 1), pt(5, 1, 1), pt(60, 1, 1), pt(7, 5, 5))
	put(t, s, "b", pt(6, 1, 1))
	want(t, "Flush", s.Flush(0), api.OK)
	put(t, s, "a", pt(5, 2, 1), pt(7, 4, 5), pt(8, 1, 1), pt(61, 1, 1))
	list(t, "all", s.Read("a", always()), pt(5, 2, 1), pt(7, 5, 5), pt(8, 1, 1), pt(59, 1, 1), pt(60, 1, 1), pt(61, 1, 1))
	list(t, "some", s.Read("a", rng(7, 60)), pt(7, 5, 5), pt(8, 1, 1), pt(59, 1, 1))
	list(t, "some", s.Read("a", rng(8, 61)), pt(8, 1, 1), pt(59, 1, 1), pt(60, 1, 1))
	list(t, "none", s.Read("a", rng(8, 8)))
	list(t, "none", s.Read("a", rng(60, 5)))
	list(t, "no such name", s.Read("c", always()))
	list(t, "no name", s.Read("", always()))
}

func TestBlock(t *testing.T) {
	d := disk.New(1 << 20)
	s := opened(t, d)
	put(t, s, "a", pt(0, 1, 1), pt(59, 1, 1), pt(60, 1, 1), pt(119, 1, 1))
	want(t, "Flush", s.Flush(0), api.OK)
	put(t, s, "a", pt(0, 2, 2), pt(58, 1, 1))
	list(t, "the first", s.Block("a", 0), pt(0, 2, 2), pt(58, 1, 1), pt(59, 1, 1))
	list(t, "the second", s.Block("a", 60), pt(60, 1, 1), pt(119, 1, 1))
	for _, block := range []int{1, 30, 59, 61, 120, -60, -1, 7, math.MaxInt, math.MinInt, math.MaxInt - math.MaxInt%60, math.MinInt + 8} {
		list(t, fmt.Sprint("block ", block), s.Block("a", block))
	}
	list(t, "another name", s.Block("b", 0))
}

func TestVolumesOfOtherBlocks(t *testing.T) {
	d := disk.New(1 << 20)
	store(t, d, key(7, 3), series("a", pt(10, 1, 1), pt(65, 1, 1)), series("b", pt(20, 1, 1)))
	s := opened(t, d)
	list(t, "Volumes", s.Volumes(), 7)
	put(t, s, "a", pt(10, 2, 2), pt(60, 2, 2))
	list(t, "Read", s.Read("a", always()), pt(10, 2, 2), pt(60, 2, 2), pt(65, 1, 1))
	list(t, "Block", s.Block("a", 7), pt(10, 1, 1), pt(65, 1, 1))
	list(t, "Block", s.Block("a", 0), pt(10, 2, 2))
	list(t, "Metas", s.Metas(always()), meta("a", 0, pt(10, 2, 2)), meta("a", 7, pt(10, 1, 1), pt(65, 1, 1)), meta("b", 7, pt(20, 1, 1)), meta("a", 60, pt(60, 2, 2)))
	list(t, "Metas", s.Metas(rng(66, 68)), meta("a", 7, pt(10, 1, 1), pt(65, 1, 1)), meta("b", 7, pt(20, 1, 1)), meta("a", 60, pt(60, 2, 2)))
	list(t, "Metas", s.Metas(rng(67, 68)), meta("a", 60, pt(60, 2, 2)))
	n, err := s.Tick(186) // the block 0 is past
	want(t, "flushed", n, 1)
	want(t, "Tick", err, api.OK)
	list(t, "Volumes", s.Volumes(), 7, 60)
	n, err = s.Tick(187) // the block 7 ends at 67
	want(t, "flushed", n, 0)
	want(t, "Tick", err, api.OK)
	list(t, "Volumes", s.Volumes(), 60)
}

func TestMetas(t *testing.T) {
	d := disk.New(1 << 20)
	s := opened(t, d)
	list(t, "nothing", s.Metas(always()))
	put(t, s, "b", pt(70, 1, 1), pt(5, 1, 1))
	put(t, s, "a", pt(5, 1, 1), pt(200, 1, 1))
	want(t, "Flush", s.Flush(0), api.OK)
	put(t, s, "a", pt(5, 2, 2), pt(4, 1, 1))
	put(t, s, "c", pt(9, 1, 1))
	a, b, c := meta("a", 0, pt(4, 1, 1), pt(5, 2, 2)), meta("b", 0, pt(5, 1, 1)), meta("c", 0, pt(9, 1, 1))
	b2, a3 := meta("b", 60, pt(70, 1, 1)), meta("a", 180, pt(200, 1, 1))
	list(t, "all", s.Metas(always()), a, b, c, b2, a3)
	list(t, "up to the start", s.Metas(rng(0, 60)), a, b, c)
	list(t, "up to the first time", s.Metas(rng(0, 61)), a, b, c, b2)
	list(t, "from the last time", s.Metas(rng(119, 180)), b2)
	list(t, "from the end", s.Metas(rng(120, 181)), a3)
	list(t, "between", s.Metas(rng(120, 180)))
	list(t, "one time", s.Metas(rng(1, 2)), a, b, c)
	list(t, "before", s.Metas(rng(-60, 0)))
	list(t, "the example", s.Metas(rng(0, 9)), a, b, c)
}

func TestMetasLeaveOutNamesWithoutPoints(t *testing.T) {
	d := disk.New(1 << 20)
	store(t, d, key(0, 1), series("a"), series("b", pt(1, 1, 1)))
	store(t, d, key(60, 1), series("a"))
	s := opened(t, d)
	list(t, "Metas", s.Metas(always()), meta("b", 0, pt(1, 1, 1)))
	list(t, "Volumes", s.Volumes(), 0, 60)
}

// P12.4

func TestFlush(t *testing.T) {
	d := disk.New(1 << 20)
	s := opened(t, d)
	put(t, s, "b", pt(5, 1, 1), pt(60, 1, 1))
	put(t, s, "a", pt(7, 1, 1), pt(6, 1, 1))
	want(t, "no such block", s.Flush(120), api.OK)
	want(t, "no start", s.Flush(5), api.OK)
	want(t, "raw calls", d.Ops(), 0)
	want(t, "Flush", s.Flush(0), api.OK)
	want(t, "raw calls", d.Ops(), 9)
	want(t, "Buffered", s.Buffered(), 1)
	list(t, "List", fileset.List(d), key(0, 1))
	volume(t, d, key(0, 1), series("a", pt(6, 1, 1), pt(7, 1, 1)), series("b", pt(5, 1, 1)))
	want(t, "nothing new", s.Flush(0), api.OK)
	want(t, "raw calls", d.Ops(), 9)
	put(t, s, "a", pt(6, 2, 2), pt(7, 0, 0), pt(1, 1, 1))
	put(t, s, "c", pt(9, 1, 1))
	want(t, "Flush", s.Flush(0), api.OK)
	list(t, "List", fileset.List(d), key(0, 2))
	volume(t, d, key(0, 2), series("a", pt(1, 1, 1), pt(6, 2, 2), pt(7, 1, 1)), series("b", pt(5, 1, 1)), series("c", pt(9, 1, 1)))
	want(t, "Clean syncs", d.Pending(), 0)
	want(t, "files", len(d.Names()), 7)
	want(t, "Buffered", s.Buffered(), 1)
}

func TestFlushCountsOnFromTheVolume(t *testing.T) {
	d := disk.New(1 << 20)
	store(t, d, key(0, 41), series("a", pt(1, 1, 1)))
	store(t, d, key(0, 50), series("z", pt(1, 1, 1)))
	d.Remove("v0-1-0-50.check")
	store(t, d, key(60, 999999), series("a", pt(61, 1, 1)))
	s := opened(t, d)
	put(t, s, "b", pt(2, 1, 1), pt(62, 1, 1))
	want(t, "Flush", s.Flush(0), api.OK)
	list(t, "List", fileset.List(d), key(0, 42), key(60, 999999))
	volume(t, d, key(0, 42), series("a", pt(1, 1, 1)), series("b", pt(2, 1, 1)))
	ops := d.Ops()
	want(t, "no number is left", s.Flush(60), api.ErrArg)
	want(t, "raw calls", d.Ops(), ops)
	want(t, "Buffered", s.Buffered(), 1)
}

func TestFlushErrors(t *testing.T) {
	whole := disk.New(1 << 20)
	s := opened(t, whole)
	put(t, s, "a", pt(1, 1, 1))
	want(t, "Flush", s.Flush(0), api.OK)
	for n := range 9 + 7 + 1 { // the calls of Write, then those of Clean
		d := whole.Clone()
		s := opened(t, d)
		put(t, s, "a", pt(2, 2, 2))
		d.Cut(n, n%3, n%2)
		want(t, "Flush", s.Flush(0), api.ErrDead)
		buffered := 1
		if n >= 9 {
			buffered = 0
		}
		want(t, fmt.Sprint("Buffered after ", n, " calls"), s.Buffered(), buffered)
		list(t, "Read", s.Read("a", always()), pt(1, 1, 1), pt(2, 2, 2))
		d.Power()
		again := opened(t, d)
		got := again.Read("a", always())
		if n < 8 {
			list(t, "Read", got, pt(1, 1, 1))
		}
		if n >= 9 {
			list(t, "Read", got, pt(1, 1, 1), pt(2, 2, 2))
		}
	}
	small := disk.New(whole.Used() + 50)
	store(t, small, key(0, 1), series("a", pt(1, 1, 1)))
	s = opened(t, small)
	put(t, s, "a", pt(2, 2, 2))
	want(t, "Flush", s.Flush(0), api.ErrFull)
	want(t, "Buffered", s.Buffered(), 1)
	list(t, "List", fileset.List(small), key(0, 1))
	list(t, "Read", s.Read("a", always()), pt(1, 1, 1), pt(2, 2, 2))
}

func TestFlushCleansForAll(t *testing.T) {
	d := disk.New(1 << 20)
	store(t, d, fileset.Key{Space: 2, Shard: 3, Block: 0, Volume: 1}, series("a", pt(1, 1, 1)))
	store(t, d, fileset.Key{Space: 2, Shard: 3, Block: 0, Volume: 2}, series("a", pt(1, 1, 1)))
	s := opened(t, d)
	put(t, s, "a", pt(1, 1, 1))
	want(t, "Flush", s.Flush(0), api.OK)
	list(t, "List", fileset.List(d), key(0, 1), fileset.Key{Space: 2, Shard: 3, Block: 0, Volume: 2})
}

// P12.5

func tick(t *testing.T, s *shard.Shard, now, flushed int, e api.Errno) {
	t.Helper()
	n, err := s.Tick(now)
	if n != flushed || err != e {
		t.Errorf("Tick(%d): got %d, %v, want %d, %v", now, n, err, flushed, e)
	}
}

func TestTickExample(t *testing.T) {
	s := opened(t, disk.New(1<<20))
	put(t, s, "a", pt(5, 1, 1))
	want(t, "Flush", s.Flush(0), api.OK)
	put(t, s, "a", pt(6, 1, 2))
	list(t, "Metas", s.Metas(rng(0, 9)), meta("a", 0, pt(5, 1, 1), pt(6, 1, 2)))
	tick(t, s, 120, 1, api.OK)
	list(t, "Volumes", s.Volumes(), 0)
	tick(t, s, 179, 0, api.OK)
	list(t, "Volumes", s.Volumes(), 0)
	tick(t, s, 180, 0, api.OK)
	list(t, "Volumes", s.Volumes())
	list(t, "Read", s.Read("a", always()))
}

func TestTickFlushesWhatHasEnded(t *testing.T) {
	d := disk.New(1 << 20)
	s := opened(t, d)
	put(t, s, "a", pt(59, 1, 1), pt(60, 1, 1), pt(125, 1, 1))
	for _, now := range []int{math.MinInt, -1, 0, 59} {
		tick(t, s, now, 0, api.OK)
	}
	want(t, "raw calls", d.Ops(), 0)
	tick(t, s, 60, 1, api.OK)
	list(t, "Volumes", s.Volumes(), 0)
	tick(t, s, 119, 0, api.OK)
	tick(t, s, 179, 1, api.OK)
	list(t, "Volumes", s.Volumes(), 0, 60)
	want(t, "Buffered", s.Buffered(), 1)
	tick(t, s, 200, 1, api.OK)
	list(t, "Volumes", s.Volumes(), 60, 120)
	tick(t, s, math.MaxInt, 0, api.OK)
	list(t, "Volumes", s.Volumes())
	want(t, "files", len(d.Names()), 0)
}

func TestTickRemovesWhatIsPast(t *testing.T) {
	d := disk.New(1 << 20)
	for _, v := range []int{1, 2, 10} {
		store(t, d, key(0, v), series("a", pt(1, 1, 1)))
	}
	store(t, d, key(60, 1), series("a", pt(61, 1, 1)))
	store(t, d, key(120, 1), series("a", pt(121, 1, 1)))
	other := fileset.Key{Space: 0, Shard: 2, Block: 0, Volume: 1}
	store(t, d, other, series("a", pt(1, 1, 1)))
	d.Append("v0-1-0-11.data", "of no valid volume")
	d.Sync()
	s := opened(t, d)
	put(t, s, "a", pt(2, 1, 1), pt(62, 1, 1), pt(122, 1, 1))
	ops := d.Ops()
	tick(t, s, 240, 1, api.OK)
	// three volumes of the block 0 and one of 60, a sync; then the block 120 is flushed and cleaned
	want(t, "raw calls", d.Ops()-ops, 4*7+1+9+(1+7)+1)
	list(t, "List", fileset.List(d), key(120, 2), other)
	list(t, "Read", s.Read("a", always()), pt(121, 1, 1), pt(122, 1, 1))
	want(t, "Buffered", s.Buffered(), 0)
}

func TestTickWithoutRetention(t *testing.T) {
	d := disk.New(1 << 20)
	s, _ := shard.Open(d, 0, 1, api.Space{Block: 60})
	put(t, s, "a", pt(1, 1, 1), pt(61, 1, 1))
	tick(t, s, 60, 0, api.OK) // past before it could be flushed
	want(t, "Buffered", s.Buffered(), 1)
	want(t, "raw calls", d.Ops(), 0)
	tick(t, s, 119, 0, api.OK)
	want(t, "Buffered", s.Buffered(), 1)
}

func TestTickErrors(t *testing.T) {
	whole := disk.New(1 << 20)
	for _, v := range []int{1, 2} {
		store(t, whole, key(0, v), series("a", pt(1, 1, 1)))
	}
	store(t, whole, key(60, 3), series("a", pt(61, 1, 1)))
	order := func(k fileset.Key) []string {
		var out []string
		for _, p := range []string{"info", "index", "summary", "bloom", "data", "digest", "check"} {
			s, _ := fileset.Name(k, p)
			out = append(out, s)
		}
		return out
	}
	files := slices.Concat(order(key(0, 1)), order(key(0, 2)), order(key(60, 3)))
	for n := range len(files) + 1 {
		d := whole.Clone()
		s := opened(t, d)
		put(t, s, "a", pt(200, 1, 1))
		d.Cut(n, math.MaxInt, 0)
		tick(t, s, 240, 0, api.ErrDead)
		for i, f := range files {
			_, ok := d.Read(f)
			want(t, fmt.Sprint(n, " calls: ", f), ok, i >= n)
		}
	}
	// one sync after all that is removed, and none before
	d := whole.Clone()
	s := opened(t, d)
	d.Cut(len(files), 0, 0)
	tick(t, s, 240, 0, api.ErrDead)
	list(t, "List", fileset.List(d), key(0, 1), key(0, 2), key(60, 3))
	list(t, "Volumes", s.Volumes(), 0, 60)
	d.Power()
	tick(t, s, 240, 0, api.OK)
	list(t, "List", fileset.List(d))
}

func TestTickTellsWhatWasFlushedBefore(t *testing.T) {
	d := disk.New(1 << 20)
	s := opened(t, d)
	put(t, s, "a", pt(1, 1, 1), pt(61, 1, 1), pt(121, 1, 1))
	d.Cut(9+3, 0, 0)
	tick(t, s, 180, 1, api.ErrDead) // the block 0 is past by then
	list(t, "Volumes", s.Volumes(), 60)
	want(t, "Buffered", s.Buffered(), 1)
	list(t, "Read", s.Read("a", always()), pt(61, 1, 1), pt(121, 1, 1))
}

// P12.6, and all of the above against a plain model

func TestModel(t *testing.T) {
	for seed := range int64(120) {
		r := rand.New(rand.NewSource(seed))
		d := disk.New(1 << 20)
		s := opened(t, d)
		model := map[string]map[int]api.Point{"a": {}, "b": {}, "c": {}}
		flushed := map[string]map[int]api.Point{"a": {}, "b": {}, "c": {}} // what survives
		now := 0
		save := func(block int) {
			for id := range model {
				for x, p := range model[id] {
					if x/60*60 == block {
						flushed[id][x] = p
					}
				}
			}
		}
		buffered := func() map[int]bool {
			out := map[int]bool{}
			for id := range model {
				for x, p := range model[id] {
					if flushed[id][x] != p {
						out[x/60*60] = true
					}
				}
			}
			return out
		}
		for range 60 {
			switch k := r.Intn(12); {
			case k == 0:
				block := 60 * r.Intn(6)
				want(t, "Flush", s.Flush(block), api.OK)
				save(block)
			case k == 1:
				now += r.Intn(40)
				_, err := s.Tick(now)
				want(t, "Tick", err, api.OK)
				for block := range buffered() {
					if block+60 <= now {
						save(block)
					}
				}
				for _, m := range []map[string]map[int]api.Point{model, flushed} {
					for id := range m {
						maps.DeleteFunc(m[id], func(x int, p api.Point) bool { return x/60*60+60 <= now-120 && now >= 120 })
					}
				}
			case k == 2:
				d.Crash(0, 0)
				d.Power()
				s = opened(t, d)
				for id := range model {
					model[id] = maps.Clone(flushed[id])
				}
			default:
				id, p := string(rune('a'+r.Intn(3))), pt(r.Intn(360), uint64(r.Intn(3)), uint64(r.Intn(3)))
				if q, ok := model[id][p.T]; !ok || p.S > q.S || p.S == q.S && p.V > q.V {
					model[id][p.T] = p
				}
				put(t, s, id, p)
			}
			compare(t, s, model, r)
			if t.Failed() {
				t.Fatal("seed", seed)
			}
		}
	}
}

func compare(t *testing.T, s *shard.Shard, model map[string]map[int]api.Point, r *rand.Rand) {
	t.Helper()
	points := func(id string, from, to int) []api.Point {
		var out []api.Point
		for _, x := range slices.Sorted(maps.Keys(model[id])) {
			if x >= from && x < to {
				out = append(out, model[id][x])
			}
		}
		return out
	}
	var metas []api.Meta
	for block := 0; block < 360; block += 60 {
		for _, id := range []string{"a", "b", "c"} {
			ps := points(id, block, block+60)
			list(t, "Block", s.Block(id, block), ps...)
			if len(ps) > 0 {
				metas = append(metas, meta(id, block, ps...))
			}
		}
	}
	list(t, "Metas", s.Metas(always()), metas...)
	for id := range model {
		from, to := r.Intn(360), r.Intn(360)
		list(t, "Read", s.Read(id, rng(from, to)), points(id, from, to)...)
		list(t, "Read", s.Read(id, always()), points(id, 0, 360)...)
	}
}

func TestFlushedPointsSurvive(t *testing.T) {
	for seed := range int64(150) {
		r := rand.New(rand.NewSource(seed))
		d := disk.New(300 + r.Intn(4000))
		s := opened(t, d)
		sure := map[int]api.Point{}
		for n := range 40 {
			p := pt(r.Intn(120), uint64(n), uint64(n))
			put(t, s, "a", p)
			if r.Intn(4) == 0 {
				d.Cut(r.Intn(30), r.Intn(8), r.Intn(9))
			}
			before := s.Read("a", always())
			for _, block := range []int{0, 60} {
				if r.Intn(3) > 0 || s.Flush(block) != api.OK {
					continue
				}
				for _, p := range before {
					if p.T/60*60 == block {
						sure[p.T] = p
					}
				}
			}
			list(t, "Flush does not change what is read", s.Read("a", always()), before...)
			if r.Intn(5) == 0 {
				d.Crash(r.Intn(8), r.Intn(9))
			}
			d.Power()
			again := opened(t, d)
			for x, p := range sure {
				got := again.Read("a", rng(x, x+1))
				if len(got) != 1 || got[0].S < p.S {
					t.Fatalf("seed %d: time %d: got %v, want %v", seed, x, got, p)
				}
			}
			if r.Intn(3) == 0 {
				s = again
			}
		}
		if t.Failed() {
			t.Fatal("seed", seed)
		}
	}
}

func TestResultsAreApart(t *testing.T) {
	d := disk.New(1 << 20)
	s := opened(t, d)
	put(t, s, "a", pt(1, 1, 1), pt(2, 2, 2))
	for range 2 {
		_ = append(s.Read("a", always())[:1], pt(9, 9, 9))
		s.Read("a", always())[0].V = 9
		s.Block("a", 0)[0].V = 9
		s.Metas(always())[0].ID = "z"
		list(t, "Read", s.Read("a", always()), pt(1, 1, 1), pt(2, 2, 2))
		list(t, "Metas", s.Metas(always()), meta("a", 0, pt(1, 1, 1), pt(2, 2, 2)))
		want(t, "Flush", s.Flush(0), api.OK)
		s.Volumes()[0] = 7
		list(t, "Volumes", s.Volumes(), 0)
	}
}
