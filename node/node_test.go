package node_test

import (
	"fmt"
	"math"
	"reflect"
	"slices"
	"strings"
	"testing"

	"thermograph/api"
	"thermograph/digest"
	"thermograph/disk"
	"thermograph/node"
	"thermograph/placement"
	"thermograph/wire"
)

const end = api.MaxTime + 1

func want[T comparable](t *testing.T, what string, got, want T) {
	t.Helper()
	if got != want {
		t.Errorf("%s: got %v, want %v", what, got, want)
	}
}

func list[T comparable](t *testing.T, what string, got []T, want ...T) {
	t.Helper()
	if !slices.Equal(got, want) {
		t.Errorf("%s: got %v, want %v", what, got, want)
	}
}

func pt(t int, v, s uint64) api.Point { return api.Point{T: t, V: v, S: s} }

func rg(from, to int) api.Range { return api.Range{From: from, To: to} }

// config is one namespace with one shard, as in the document's examples.
func config() api.Config {
	return api.Config{Spaces: []api.Space{{Retention: 300, Block: 60, Future: 10}}, Shards: 1}
}

func wide() api.Config {
	return api.Config{Spaces: []api.Space{{Retention: 300, Block: 60, Future: 10}, {Retention: 1000, Block: 100, Future: 1000}}, Shards: 4}
}

func open(t *testing.T, d *disk.Disk, c api.Config, me, life, now int) *node.Node {
	t.Helper()
	ops, pending := d.Ops(), d.Pending()
	n, err := node.Open(d, c, me, life, now)
	if err != api.OK {
		t.Fatal(err)
	}
	if d.Ops() != ops || d.Pending() != pending {
		t.Error("Open makes a raw call")
	}
	return n
}

func start(t *testing.T, nodes, shards int) api.Placement {
	t.Helper()
	l := []int{0, 1, 2, 3, 4, 5, 6, 7}[:nodes]
	p, err := placement.Init(l, shards)
	if err != api.OK {
		t.Fatal(err)
	}
	return p
}

// at is a node 0 on a disk with much room, with a placement of three nodes.
func at(t *testing.T, c api.Config) (*node.Node, *disk.Disk) {
	t.Helper()
	d := disk.New(1 << 20)
	n := open(t, d, c, 0, 0, 0)
	want(t, "Learn", n.Learn(start(t, 3, c.Shards)), true)
	return n, d
}

// say gives a message to the node, from 100, and returns the answer.
func say(t *testing.T, n *node.Node, m wire.Message, now int) wire.Message {
	t.Helper()
	b, err := wire.Encode(m)
	if err != api.OK {
		t.Fatal(err)
	}
	l := n.Handle(100, b, now)
	if len(l) != 1 {
		t.Fatalf("%+v: %d answers", m, len(l))
	}
	a, err := wire.Decode(l[0].Data)
	if err != api.OK || l[0].To != 100 {
		t.Fatalf("%+v: got %v, %v", m, l[0], err)
	}
	return a
}

// fails says what has to be answered with an error alone.
func fails(t *testing.T, n *node.Node, m wire.Message, now int, e api.Errno) {
	t.Helper()
	a := say(t, n, m, now)
	b := wire.Message{Kind: m.Kind + 1, Seq: m.Seq, Epoch: n.Epoch(), Err: e}
	if len(a.Points)+len(a.Metas) == 0 {
		a.Points, a.Metas = nil, nil
	}
	if !reflect.DeepEqual(a, b) {
		t.Errorf("%+v at %d: got %+v, want %+v", m, now, a, b)
	}
}

// write is a message; its Seq is odd so that it is told from others.
func write(id string, p api.Point) wire.Message {
	return wire.Message{Kind: wire.Write, Seq: 7, Epoch: 1, ID: id, P: p}
}

func put(t *testing.T, n *node.Node, now int, id string, ps ...api.Point) {
	t.Helper()
	for _, p := range ps {
		fails(t, n, write(id, p), now, api.OK)
	}
}

// named returns a name whose shard is the given one.
func named(shard, shards int) string {
	for i := 0; ; i++ {
		if id := fmt.Sprint("n", i); digest.Shard(id, shards) == shard {
			return id
		}
	}
}

// P20.1

func TestCheck(t *testing.T) {
	good := api.Space{Block: 1}
	for _, c := range []struct {
		spaces []api.Space
		shards int
		err    api.Errno
	}{
		{[]api.Space{good}, 1, api.OK},
		{[]api.Space{good, good, good, {Block: api.MaxTime, Retention: api.MaxTime, Future: api.MaxTime}}, 8, api.OK},
		{nil, 1, api.ErrArg},
		{[]api.Space{good, good, good, good, good}, 1, api.ErrArg},
		{[]api.Space{good}, 0, api.ErrArg}, {[]api.Space{good}, -1, api.ErrArg}, {[]api.Space{good}, 9, api.ErrArg},
		{[]api.Space{good, {}}, 1, api.ErrArg},
		{[]api.Space{{Block: -1}}, 1, api.ErrArg},
		{[]api.Space{{Block: api.MaxTime + 1}}, 1, api.ErrArg},
		{[]api.Space{good, {Block: 1, Retention: -1}}, 1, api.ErrArg},
		{[]api.Space{{Block: 1, Retention: api.MaxTime + 1}}, 1, api.ErrArg},
		{[]api.Space{{Block: 1, Future: -1}}, 1, api.ErrArg},
		{[]api.Space{{Block: 1, Future: api.MaxTime + 1}}, 1, api.ErrArg},
	} {
		cfg := api.Config{Spaces: c.spaces, Shards: c.shards}
		want(t, fmt.Sprint("Check ", cfg), node.Check(cfg), c.err)
		n, err := node.Open(disk.New(0), cfg, 0, 0, 0)
		want(t, fmt.Sprint("Open ", cfg), err, c.err)
		want(t, "node", n != nil, c.err == api.OK)
	}
}

func TestOpenErrors(t *testing.T) {
	for _, c := range []struct {
		me, life int
		err      api.Errno
	}{
		{0, 0, api.OK}, {7, 65535, api.OK}, {-1, 0, api.ErrArg}, {8, 0, api.ErrArg}, {0, -1, api.ErrArg}, {0, 65536, api.ErrArg}, {math.MinInt, math.MaxInt, api.ErrArg},
	} {
		for _, now := range []int{0, math.MinInt, math.MaxInt} {
			n, err := node.Open(disk.New(0), config(), c.me, c.life, now)
			want(t, fmt.Sprint(c.me, c.life), err, c.err)
			want(t, "node", n != nil, c.err == api.OK)
		}
	}
}

func TestOpenReplaysTheLog(t *testing.T) {
	n, d := at(t, wide())
	a, b := named(1, 4), named(3, 4)
	put(t, n, 0, a, pt(5, 1, 1), pt(7, 2, 2), pt(5, 3, 3), pt(5, 2, 2))
	put(t, n, 0, b, pt(9, 1, 1))
	m := write(b, pt(950, 4, 4))
	m.Space = 1
	fails(t, n, m, 0, api.OK)
	d.Crash(0, 0)
	n = open(t, d, wide(), 0, 1, 0)
	want(t, "Epoch", n.Epoch(), 0)
	list(t, "Points", n.Points(0, a), pt(5, 3, 3), pt(7, 2, 2))
	list(t, "Points", n.Points(0, b), pt(9, 1, 1))
	list(t, "Points", n.Points(1, b), pt(950, 4, 4))
	want(t, "Buffered", n.Buffered(), 4)
	// what is past at now is left out: the block 0 of the namespace 0 ends at 60
	n = open(t, d, wide(), 0, 1, 359)
	want(t, "Buffered", n.Buffered(), 4)
	n = open(t, d, wide(), 0, 1, 360)
	list(t, "Points", n.Points(0, a))
	list(t, "Points", n.Points(1, b), pt(950, 4, 4))
	want(t, "Buffered", n.Buffered(), 1)
	// a configuration without the namespace 1
	one := wide()
	one.Spaces = one.Spaces[:1]
	n = open(t, d, one, 0, 1, 0)
	want(t, "Buffered", n.Buffered(), 3)
	list(t, "Points", n.Points(1, b))
}

func TestOpenSkipsWhatAShardRejects(t *testing.T) {
	c := config()
	c.Spaces[0].Block, c.Spaces[0].Future = 10, 1000
	n, d := at(t, c)
	for i := range 60 {
		for x := range 10 {
			put(t, n, 0, "a", pt(10*i+x, 1, 1))
		}
	}
	put(t, n, 0, "b", pt(1, 1, 1))
	c.Spaces[0].Block = 1000 // all of a lies in one block now
	n = open(t, d, c, 0, 1, 0)
	want(t, "points", len(n.Points(0, "a")), 512)
	list(t, "Points", n.Points(0, "b"), pt(1, 1, 1))
}

func TestTheConfigurationIsNotKept(t *testing.T) {
	c := config()
	n := open(t, disk.New(1<<20), c, 0, 0, 0)
	c.Spaces[0] = api.Space{Block: 1}
	p := start(t, 3, 1)
	n.Learn(p)
	p.Shards[0][0].Node, p.Version = 7, 99
	put(t, n, 0, "a", pt(5, 1, 1))
}

// P20.2

func TestLearn(t *testing.T) {
	n := open(t, disk.New(1<<20), config(), 0, 0, 0)
	p := start(t, 3, 1)
	want(t, "Epoch", n.Epoch(), 0)
	want(t, "no placement", n.Learn(api.Placement{Version: 5}), false)
	want(t, "Epoch", n.Epoch(), 0)
	p.Version = 4
	want(t, "Learn", n.Learn(p), true)
	want(t, "Epoch", n.Epoch(), 4)
	for v := -1; v <= 4; v++ {
		p.Version = v
		want(t, fmt.Sprint("version ", v), n.Learn(p), false)
	}
	want(t, "Epoch", n.Epoch(), 4)
	p.Version = api.MaxTime
	want(t, "Learn", n.Learn(p), true)
	want(t, "Epoch", n.Epoch(), api.MaxTime)
	p.Version++
	want(t, "no placement", n.Learn(p), false)
}

// P20.3

func TestHandleWhatIsNoRequest(t *testing.T) {
	n, _ := at(t, config())
	for _, b := range [][]byte{nil, {}, {0}, {1}, {9, 1, 2}, {1, 7, 1, 0}, make([]byte, api.MaxFrame+1)} {
		want(t, fmt.Sprint(len(b), " bytes"), len(n.Handle(1, b, 0)), 0)
	}
	for _, kind := range []int{wire.Wrote, wire.Told, wire.Paged, wire.Stream} {
		b, _ := wire.Encode(wire.Message{Kind: kind, Seq: 1, Epoch: 1})
		want(t, fmt.Sprint("kind ", kind), len(n.Handle(1, b, 0)), 0)
	}
}

func TestTheAnswersPacket(t *testing.T) {
	for _, me := range []int{1, 2} {
		n := open(t, disk.New(1<<20), config(), me, 0, 0)
		n.Learn(start(t, 3, 1))
		for _, from := range []int{0, 1, 103, -5, math.MaxInt} {
			b, _ := wire.Encode(write("a", pt(5, 1, 1)))
			l := n.Handle(from, b, 0)
			c, _ := wire.Encode(wire.Message{Kind: wire.Wrote, Seq: 7, Epoch: 1})
			if len(l) != 1 || l[0].From != me || l[0].To != from || string(l[0].Data) != string(c) {
				t.Error(l)
			}
		}
	}
}

func TestExample(t *testing.T) {
	n := open(t, disk.New(1<<20), config(), 0, 0, 0)
	fails(t, n, write("a", pt(5, 1, 1)), 0, api.ErrEpoch)
	list(t, "Points", n.Points(0, "a"))
	want(t, "Learn", n.Learn(start(t, 3, 1)), true)
	fails(t, n, write("a", pt(5, 1, 1)), 0, api.OK)
	list(t, "Points", n.Points(0, "a"), pt(5, 1, 1))
	fails(t, n, write("a", pt(500, 1, 1)), 0, api.ErrTime)
	m := write("a", pt(5, 1, 1))
	m.Space = 7
	fails(t, n, m, 0, api.ErrSpace)
}

// admission tries all that makes a request of one kind be refused. The errors come in this order.
func admission(t *testing.T, m wire.Message, byID bool) {
	t.Helper()
	c := wide()
	p := start(t, 4, 8) // the node 3 owns nothing of the shard 0
	n := open(t, disk.New(1<<20), c, 3, 0, 0)
	n.Learn(p)
	m.Epoch = 1
	for shard := range 4 {
		_, owns := placement.Find(p, shard, 3)
		x := m
		x.Shard = shard
		if byID {
			x.ID = named(shard, 4)
		}
		if owns {
			fails(t, n, x, 5, api.OK)
		} else {
			fails(t, n, x, 5, api.ErrShard)
		}
		for _, epoch := range []int{0, 2, api.MaxTime} {
			x.Epoch = epoch
			fails(t, n, x, 5, api.ErrEpoch)
		}
		for _, space := range []int{2, 3, 4, 255} {
			x.Space = space
			fails(t, n, x, 5, api.ErrSpace)
		}
		if byID {
			x.ID = ""
			fails(t, n, x, 5, api.ErrID)
			continue
		}
		for _, shard := range []int{4, 5, 7, 8, 255} {
			x.Shard = shard
			x.Space = 3
			fails(t, n, x, 5, api.ErrSpace)
			x.Space = 1
			fails(t, n, x, 5, api.ErrShard) // before the epoch
		}
	}
	if !byID {
		return
	}
	few := open(t, disk.New(1<<20), c, 0, 0, 0)
	few.Learn(start(t, 3, 2)) // has not all of the shards
	m.ID = named(3, 4)
	fails(t, few, m, 5, api.ErrShard)
	m.ID = named(1, 4)
	fails(t, few, m, 5, api.OK)
}

func TestAdmission(t *testing.T) {
	admission(t, wire.Message{Kind: wire.Write, Seq: 9, P: pt(5, 1, 1)}, true)
	admission(t, wire.Message{Kind: wire.Read, Seq: 9, R: rg(100, 200)}, true)
	admission(t, wire.Message{Kind: wire.Metas, Seq: 9, R: rg(0, 100), ID: "a", Block: 60}, false)
	admission(t, wire.Message{Kind: wire.Block, Seq: 9, Block: 60, ID: "a"}, false)
}

// comes is a placement in which 3 comes from 0 in the shard 0, and the 0 leaves.
func comes(t *testing.T) api.Placement {
	t.Helper()
	p, err := placement.Add(start(t, 3, 2), 3)
	if err != api.OK {
		t.Fatal(err)
	}
	return p
}

func TestOwnersOfAllStates(t *testing.T) {
	for _, me := range []int{0, 1, 3} {
		n := open(t, disk.New(1<<20), config(), me, 0, 0)
		n.Learn(comes(t))
		m := write("a", pt(5, 1, 1))
		m.Epoch = 2
		fails(t, n, m, 0, api.OK)
		a := say(t, n, wire.Message{Kind: wire.Read, Epoch: 2, ID: "a", R: rg(0, 9)}, 0)
		list(t, "Read", a.Points, pt(5, 1, 1))
		err := api.OK
		if me == 3 {
			err = api.ErrBusy // it has not all yet
		}
		want(t, "Metas", say(t, n, wire.Message{Kind: wire.Metas, Epoch: 2, R: rg(0, 9)}, 0).Err, err)
		want(t, "Block", say(t, n, wire.Message{Kind: wire.Block, Epoch: 2, ID: "a"}, 0).Err, err)
		want(t, "the epoch first", say(t, n, wire.Message{Kind: wire.Metas, Epoch: 1, R: rg(0, 9)}, 0).Err, api.ErrEpoch)
		want(t, "the epoch first", say(t, n, wire.Message{Kind: wire.Block, Epoch: 1}, 0).Err, api.ErrEpoch)
	}
	n := open(t, disk.New(1<<20), config(), 4, 0, 0)
	n.Learn(comes(t))
	m := write("a", pt(5, 1, 1))
	m.Epoch = 2
	fails(t, n, m, 0, api.ErrShard)
}

func TestWriteTimes(t *testing.T) {
	for _, c := range []struct {
		t, now int
		err    api.Errno
	}{
		{10, 0, api.OK}, {11, 0, api.ErrTime}, {0, 0, api.OK}, {0, 300, api.OK}, {0, 301, api.ErrTime}, {1, 301, api.OK}, {311, 301, api.OK}, {312, 301, api.ErrTime},
		{0, -10, api.OK}, {0, -11, api.ErrTime}, {0, math.MinInt, api.ErrTime}, {api.MaxTime, math.MaxInt, api.ErrTime}, {api.MaxTime, api.MaxTime, api.OK},
		{api.MaxTime, api.MaxTime + 300, api.OK}, {api.MaxTime, api.MaxTime + 301, api.ErrTime}, {api.MaxTime, api.MaxTime - 11, api.ErrTime},
	} {
		n, d := at(t, config())
		fails(t, n, write("a", pt(c.t, 1, 1)), c.now, c.err)
		if c.err != api.OK {
			want(t, "raw calls", d.Ops(), 0)
			want(t, "Buffered", n.Buffered(), 0)
		}
	}
	c := api.Config{Spaces: []api.Space{{Retention: api.MaxTime, Block: 60, Future: api.MaxTime}}, Shards: 1}
	for _, now := range []int{math.MinInt, math.MaxInt} { // the sums stay in their range
		n, _ := at(t, c)
		fails(t, n, write("a", pt(5, 1, 1)), now, api.ErrTime)
	}
	n, _ := at(t, c)
	fails(t, n, write("a", pt(api.MaxTime, 1, 1)), 0, api.OK)
}

func TestWriteErrors(t *testing.T) {
	c := config()
	c.Spaces[0].Block, c.Spaces[0].Future = 1000, 1000
	n, d := at(t, c)
	for i := range 512 {
		put(t, n, 0, "a", pt(i, 1, 1))
	}
	ops := d.Ops()
	fails(t, n, write("a", pt(600, 1, 1)), 0, api.ErrMany)
	want(t, "raw calls", d.Ops(), ops)
	fails(t, n, write("a", pt(1001, 1, 1)), 0, api.ErrTime)
	fails(t, n, write("a", pt(600, 1, 1)), 1601, api.ErrTime) // the time before May

	small := disk.New(40)
	n = open(t, small, config(), 0, 0, 0)
	n.Learn(start(t, 3, 1))
	put(t, n, 0, "a", pt(1, 1, 1))
	fails(t, n, write("a", pt(2, 2, 2)), 0, api.ErrFull)
	list(t, "Points", n.Points(0, "a"), pt(1, 1, 1))
	small.Cut(0, 0, 0)
	fails(t, n, write("a", pt(2, 2, 2)), 0, api.ErrFull)
	want(t, "Dead", small.Dead(), false)
}

func TestWriteWithoutPower(t *testing.T) {
	for n := range 3 {
		x, d := at(t, config())
		put(t, x, 0, "a", pt(1, 1, 1))
		d.Cut(n, 9, 0)
		b, _ := wire.Encode(write("a", pt(2, 2, 2)))
		l := x.Handle(100, b, 0)
		if n == 2 {
			want(t, "answers", len(l), 1)
			continue
		}
		want(t, "answers", len(l), 0)
		list(t, "Points", x.Points(0, "a"), pt(1, 1, 1))
		want(t, "Buffered", x.Buffered(), 1)
	}
}

func TestWritesAreSynced(t *testing.T) {
	n, d := at(t, config())
	put(t, n, 0, "a", pt(5, 1, 1))
	want(t, "Pending", d.Pending(), 0)
	want(t, "raw calls", d.Ops(), 2)
	list(t, "files", d.Names(), "log-1")
}

func TestRead(t *testing.T) {
	n, _ := at(t, config())
	read := func(now, from, to int) []api.Point {
		t.Helper()
		a := say(t, n, wire.Message{Kind: wire.Read, Seq: 3, Epoch: 1, ID: "a", R: rg(from, to)}, now)
		if a.Kind != wire.Told || a.Seq != 3 || a.Epoch != 1 || a.Err != api.OK {
			t.Errorf("got %+v", a)
		}
		return a.Points
	}
	list(t, "nothing", read(0, 0, end))
	put(t, n, 0, "a", pt(1, 1, 1), pt(5, 5, 5), pt(9, 9, 9))
	put(t, n, 0, "b", pt(2, 1, 1))
	list(t, "all", read(0, 0, end), pt(1, 1, 1), pt(5, 5, 5), pt(9, 9, 9))
	list(t, "some", read(0, 1, 9), pt(1, 1, 1), pt(5, 5, 5))
	list(t, "none", read(0, 9, 1))
	list(t, "at the cutoff", read(305, 0, end), pt(5, 5, 5), pt(9, 9, 9))
	list(t, "after the cutoff", read(306, 5, end), pt(9, 9, 9))
	list(t, "above the cutoff", read(301, 6, end), pt(9, 9, 9))
	list(t, "all past", read(310, 0, end))
	list(t, "late", read(math.MaxInt, 0, end))
	list(t, "early", read(math.MinInt, 0, end), pt(1, 1, 1), pt(5, 5, 5), pt(9, 9, 9))
	list(t, "Points knows no cutoff", n.Points(0, "a"), pt(1, 1, 1), pt(5, 5, 5), pt(9, 9, 9))
}

func TestReadManyPoints(t *testing.T) {
	c := config()
	c.Spaces[0].Block, c.Spaces[0].Future, c.Spaces[0].Retention = 400, 1000, 100
	n, _ := at(t, c)
	for i := range 513 {
		put(t, n, 0, "a", pt(i, 1, 1))
	}
	m := wire.Message{Kind: wire.Read, Epoch: 1, ID: "a", R: rg(0, end)}
	fails(t, n, m, 0, api.ErrMany)
	m.R = rg(0, 512)
	want(t, "512 points", len(say(t, n, m, 0).Points), 512)
	m.R = rg(0, end)
	want(t, "512 points", len(say(t, n, m, 101).Points), 512)
}

func TestMetasAndBlocks(t *testing.T) {
	n, _ := at(t, config())
	var ids []string
	for i := range 10 {
		ids = append(ids, fmt.Sprintf("s%02d", i))
		put(t, n, 0, ids[i], pt(5, uint64(i), 1))
	}
	put(t, n, 60, "s00", pt(65, 1, 1), pt(61, 1, 1))
	metas := func(block int, id string, r api.Range) ([]api.Meta, bool) {
		t.Helper()
		a := say(t, n, wire.Message{Kind: wire.Metas, Seq: 3, Epoch: 1, R: r, Block: block, ID: id}, 500)
		if a.Kind != wire.Paged || a.Err != api.OK {
			t.Errorf("got %+v", a)
		}
		return a.Metas, a.More
	}
	l, more := metas(0, "", rg(0, end))
	want(t, "a page", len(l), 8)
	want(t, "More", more, true)
	want(t, "the first", l[0].ID, "s00")
	l, more = metas(l[7].Block, l[7].ID, rg(0, end))
	want(t, "the next page", len(l), 3)
	want(t, "More", more, false)
	want(t, "the last", fmt.Sprintf("%s %d %d", l[2].ID, l[2].Block, l[2].Count), "s00 60 2")
	l, more = metas(0, "", rg(60, end))
	want(t, "of a range", len(l), 1)
	want(t, "More", more, false)
	block := func(id string, block int) []api.Point {
		t.Helper()
		a := say(t, n, wire.Message{Kind: wire.Block, Seq: 3, Epoch: 1, Block: block, ID: id}, 500)
		if a.Kind != wire.Stream || a.Err != api.OK {
			t.Errorf("got %+v", a)
		}
		return a.Points
	}
	list(t, "Block", block("s00", 60), pt(61, 1, 1), pt(65, 1, 1))
	list(t, "Block", block("s03", 0), pt(5, 3, 1))
	list(t, "no start", block("s03", 5))
	list(t, "no name", block("", 0))
}

// P20.8

func TestPointsAndBuffered(t *testing.T) {
	n, _ := at(t, wide())
	a := named(2, 4)
	put(t, n, 0, a, pt(5, 1, 1))
	m := write(a, pt(950, 2, 2))
	m.Space = 1
	fails(t, n, m, 0, api.OK)
	list(t, "Points", n.Points(0, a), pt(5, 1, 1))
	list(t, "Points", n.Points(1, a), pt(950, 2, 2))
	for _, space := range []int{-1, 2, math.MinInt, math.MaxInt} {
		list(t, "no such namespace", n.Points(space, a))
	}
	list(t, "no such name", n.Points(0, ""))
	list(t, "no such name", n.Points(0, strings.Repeat("x", 99)))
	want(t, "Buffered", n.Buffered(), 2)
	n.Points(0, a)[0].V = 99
	list(t, "Points", n.Points(0, a), pt(5, 1, 1))
}

func TestRepairErrors(t *testing.T) {
	n := open(t, disk.New(1<<20), wide(), 0, 0, 0)
	want(t, "before Learn", n.Repair(0, 0, 1), api.ErrShard)
	n.Learn(start(t, 4, 8))
	for _, c := range []struct {
		space, shard, peer int
		err                api.Errno
	}{
		{0, 0, 1, api.OK}, {1, 0, 2, api.OK}, {0, 1, 1, api.OK},
		{-1, 0, 1, api.ErrSpace}, {2, 9, 9, api.ErrSpace}, {math.MaxInt, 0, 1, api.ErrSpace},
		{0, -1, 1, api.ErrShard}, {0, 4, 1, api.ErrShard}, {0, math.MaxInt, 1, api.ErrShard},
		{0, 3, 1, api.ErrShard}, {0, 3, 99, api.ErrShard}, // not its own
		{0, 0, 0, api.ErrNodes}, {0, 0, 3, api.ErrNodes}, {0, 0, 7, api.ErrNodes}, {0, 0, -1, api.ErrNodes}, {0, 0, math.MinInt, api.ErrNodes},
	} {
		want(t, fmt.Sprint(c.space, c.shard, c.peer), n.Repair(c.space, c.shard, c.peer), c.err)
	}
	for me, err := range map[int]api.Errno{0: api.ErrShard, 1: api.OK, 3: api.ErrShard} { // one leaves, one comes
		n := open(t, disk.New(1<<20), config(), me, 0, 0)
		n.Learn(comes(t))
		want(t, fmt.Sprint("node ", me), n.Repair(0, 0, 2), err)
	}
	n = open(t, disk.New(1<<20), config(), 1, 0, 0)
	n.Learn(comes(t))
	want(t, "of one that leaves", n.Repair(0, 0, 0), api.ErrNodes)
	want(t, "of one that comes", n.Repair(0, 0, 3), api.ErrNodes)
}
