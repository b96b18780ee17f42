package node_test

import (
	"fmt"
	"math"
	"math/rand"
	"reflect"
	"slices"
	"testing"

	"thermograph/api"
	"thermograph/commitlog"
	"thermograph/disk"
	"thermograph/fileset"
	"thermograph/node"
	"thermograph/placement"
	"thermograph/wire"
)

// asks ticks and returns the request and whom it goes to.
func asks(t *testing.T, n *node.Node, now int) (wire.Message, int) {
	t.Helper()
	l, err := n.Tick(now)
	if err != api.OK || len(l) != 1 {
		t.Fatalf("Tick: got %v, %v", l, err)
	}
	m, err := wire.Decode(l[0].Data)
	if err != api.OK {
		t.Fatal(err)
	}
	return m, l[0].To
}

func asksNothing(t *testing.T, n *node.Node, now int) {
	t.Helper()
	l, err := n.Tick(now)
	if err != api.OK || len(l) != 0 {
		t.Errorf("Tick: got %v, %v", l, err)
	}
}

// request ticks and holds the request against the one that should come.
func request(t *testing.T, n *node.Node, to int, m wire.Message) {
	t.Helper()
	got, peer := asks(t, n, 0)
	if !reflect.DeepEqual(got, m) || peer != to {
		t.Fatalf("got %+v to %d, want %+v to %d", got, peer, m, to)
	}
}

func metasRequest(seq, epoch, space, shard, block int, id string) wire.Message {
	return wire.Message{Kind: wire.Metas, Seq: seq, Epoch: epoch, Space: space, Shard: shard, R: rg(0, end), Block: block, ID: id}
}

func blockRequest(seq, epoch, space, shard, block int, id string) wire.Message {
	return wire.Message{Kind: wire.Block, Seq: seq, Epoch: epoch, Space: space, Shard: shard, Block: block, ID: id}
}

// tell gives an answer of a peer to the node.
func tell(t *testing.T, n *node.Node, from int, m wire.Message, now int) {
	t.Helper()
	b, err := wire.Encode(m)
	if err != api.OK {
		t.Fatal(err)
	}
	if l := n.Handle(from, b, now); len(l) != 0 {
		t.Errorf("an answer to an answer: %v", l)
	}
}

func paged(seq, epoch int, more bool, l ...api.Meta) wire.Message {
	return wire.Message{Kind: wire.Paged, Seq: seq, Epoch: epoch, More: more, Metas: l}
}

func stream(seq, epoch int, l ...api.Point) wire.Message {
	return wire.Message{Kind: wire.Stream, Seq: seq, Epoch: epoch, Points: l}
}

func mt(id string, block int) api.Meta { return api.Meta{ID: id, Block: block} }

// serve answers the requests to one peer until the node turns to another one, or asks no more.
func serve(t *testing.T, n *node.Node, peer, now int, l ...api.Series) {
	t.Helper()
	for range 100 {
		p, err := n.Tick(now)
		if err != api.OK || len(p) == 0 || p[0].To != peer {
			return
		}
		m, _ := wire.Decode(p[0].Data)
		a := wire.Message{Kind: m.Kind + 1, Seq: m.Seq, Epoch: m.Epoch}
		for _, s := range l {
			for _, x := range s.Points {
				block := x.T / 60 * 60
				switch {
				case m.Kind == wire.Block && s.ID == m.ID && block == m.Block:
					a.Points = append(a.Points, x)
				case m.Kind == wire.Metas && (block > m.Block || block == m.Block && s.ID > m.ID) && !slices.Contains(a.Metas, mt(s.ID, block)):
					a.Metas = append(a.Metas, mt(s.ID, block))
				}
			}
		}
		slices.SortFunc(a.Metas, func(x, y api.Meta) int {
			if x.Block != y.Block {
				return x.Block - y.Block
			}
			return int(x.ID[0]) - int(y.ID[0])
		})
		tell(t, n, peer, a, now)
		if m.Kind == wire.Block || len(a.Metas) == 0 {
			if len(n.Ready()) > 0 {
				return
			}
		}
	}
}

func of(id string, l ...api.Point) api.Series { return api.Series{ID: id, Points: l} }

// newcomer is node 3, which comes from 0 in the shard 0; 1 and 2 are the others. The placement has version 2.
func newcomer(t *testing.T, c api.Config, life int) (*node.Node, *disk.Disk) {
	t.Helper()
	d := disk.New(1 << 20)
	n := open(t, d, c, 3, life, 0)
	want(t, "Learn", n.Learn(comes(t)), true)
	return n, d
}

// P20.4

func TestTickStoresAndRemoves(t *testing.T) {
	n, d := at(t, wide())
	a, b := named(1, 4), named(3, 4)
	put(t, n, 0, a, pt(5, 1, 1))
	put(t, n, 0, b, pt(6, 1, 1))
	m := write(b, pt(950, 2, 2))
	m.Space = 1
	fails(t, n, m, 0, api.OK)
	asksNothing(t, n, 59)
	want(t, "Buffered", n.Buffered(), 3)
	asksNothing(t, n, 60)
	want(t, "Buffered", n.Buffered(), 1)
	list(t, "List", fileset.List(d), fileset.Key{Shard: 1, Volume: 1}, fileset.Key{Shard: 3, Volume: 1})
	_, records := commitlog.Open(d)
	want(t, "the log, as long as a point is in a buffer", len(records), 3)
	asksNothing(t, n, 1000)
	want(t, "Buffered", n.Buffered(), 0)
	list(t, "List", fileset.List(d), fileset.Key{Space: 1, Shard: 3, Block: 900, Volume: 1})
	_, records = commitlog.Open(d)
	want(t, "the log", len(records), 0)
	list(t, "Points", n.Points(1, b), pt(950, 2, 2))
	asksNothing(t, n, 1999)
	want(t, "volumes", len(fileset.List(d)), 1)
	asksNothing(t, n, 2000)
	want(t, "files", len(d.Names()), 0)
}

func TestTickInOrder(t *testing.T) {
	c := api.Config{Spaces: []api.Space{{Retention: 300, Block: 60, Future: 10}, {Retention: 300, Block: 60, Future: 10}}, Shards: 2}
	d := disk.New(1 << 20)
	n := open(t, d, c, 0, 0, 0)
	n.Learn(start(t, 3, 2))
	for space := range 2 {
		for shard := range 2 {
			m := write(named(shard, 2), pt(5, 1, 1))
			m.Space = space
			fails(t, n, m, 0, api.OK)
		}
	}
	keys := []fileset.Key{{Space: 0, Shard: 0, Volume: 1}, {Space: 0, Shard: 1, Volume: 1}, {Space: 1, Shard: 0, Volume: 1}, {Space: 1, Shard: 1, Volume: 1}}
	want(t, "Repair", n.Repair(0, 0, 1), api.OK) // there is a request to be made
	for i := range 4 {
		d.Cut(9*min(1, i)+3, 0, 0)
		l, err := n.Tick(60)
		want(t, "Tick", err, api.ErrDead)
		want(t, "packets", len(l), 0)
		list(t, "List", fileset.List(d), keys[:i]...)
		d.Power()
	}
	d.Cut(9+0, 0, 0) // in the removal of the log
	l, err := n.Tick(60)
	want(t, "Tick", err, api.ErrDead)
	want(t, "packets", len(l), 0)
	list(t, "List", fileset.List(d), keys...)
	d.Power()
	_, records := commitlog.Open(d)
	want(t, "the log", len(records), 4)
	d.Cut(1, 9, 0) // in the sync after it
	_, err = n.Tick(60)
	want(t, "Tick", err, api.ErrDead)
	d.Power()
	m, to := asks(t, n, 60)
	want(t, "request", m.Kind, wire.Metas)
	want(t, "request", to, 1)
	_, records = commitlog.Open(d)
	want(t, "the log", len(records), 0)
}

func TestTickEmptiesTheLogOnlyIfNeeded(t *testing.T) {
	n, d := at(t, config())
	asksNothing(t, n, 0)
	want(t, "raw calls", d.Ops(), 0)
	put(t, n, 0, "a", pt(5, 1, 1))
	ops := d.Ops()
	asksNothing(t, n, 59)
	want(t, "a buffer is not empty", d.Ops(), ops)
	asksNothing(t, n, 60)
	want(t, "a volume, and the log", d.Ops(), ops+9+2)
	asksNothing(t, n, 60)
	want(t, "nothing more", d.Ops(), ops+9+2)
	put(t, n, 60, "a", pt(65, 1, 1))
	list(t, "the log goes on with another file", d.Names()[:1], "log-2")
	asksNothing(t, n, 120)

	// a Write that failed counts, too: its file goes
	d = disk.New(1 << 20)
	n = open(t, d, config(), 0, 0, 0)
	n.Learn(start(t, 3, 1))
	d.Cut(1, 9, 0)
	b, _ := wire.Encode(write("a", pt(5, 1, 1)))
	n.Handle(100, b, 0)
	d.Power()
	list(t, "files", d.Names(), "log-1")
	want(t, "Buffered", n.Buffered(), 0)
	asksNothing(t, n, 0)
	list(t, "files", d.Names())

	// and a file that was there at Open
	d.Append("log-1", "no record")
	d.Sync()
	n = open(t, d, config(), 0, 1, 0)
	asksNothing(t, n, 0)
	list(t, "files", d.Names())
	ops = d.Ops()
	asksNothing(t, n, 0)
	want(t, "nothing more", d.Ops(), ops)

	// but not a request that was refused before it
	fails(t, n, write("a", pt(5, 1, 1)), 0, api.ErrEpoch)
	n.Learn(start(t, 3, 1))
	fails(t, n, write("a", pt(500, 1, 1)), 0, api.ErrTime)
	d.Append("log-3", "of another")
	asksNothing(t, n, 0)
	list(t, "files", d.Names(), "log-3")
}

func TestTickWithoutRoom(t *testing.T) {
	d := disk.New(200)
	n := open(t, d, config(), 0, 0, 0)
	n.Learn(start(t, 3, 1))
	put(t, n, 0, "a", pt(5, 1, 1), pt(6, 2, 2), pt(7, 3, 3), pt(8, 4, 4))
	l, err := n.Tick(60)
	want(t, "Tick", err, api.ErrFull)
	want(t, "packets", len(l), 0)
	want(t, "Buffered", n.Buffered(), 4)
	n = open(t, d, config(), 0, 1, 60)
	want(t, "Buffered", n.Buffered(), 4)
}

// P20.6

func TestRequests(t *testing.T) {
	n, _ := newcomer(t, config(), 5)
	seq := 5 << 24
	request(t, n, 0, metasRequest(seq, 2, 0, 0, 0, ""))
	tell(t, n, 0, paged(seq, 2, true, mt("a", 0), mt("b", 0)), 0)
	request(t, n, 0, metasRequest(seq+1, 2, 0, 0, 0, "b"))
	tell(t, n, 0, paged(seq+1, 2, false, mt("b", 60)), 0)
	request(t, n, 0, blockRequest(seq+2, 2, 0, 0, 0, "a"))
	tell(t, n, 0, stream(seq+2, 2, pt(5, 1, 1)), 0)
	list(t, "Points", n.Points(0, "a")) // not before all is there
	request(t, n, 0, blockRequest(seq+3, 2, 0, 0, 0, "b"))
	tell(t, n, 0, stream(seq+3, 2, pt(6, 1, 1)), 0)
	request(t, n, 0, blockRequest(seq+4, 2, 0, 0, 60, "b"))
	list(t, "Ready", n.Ready())
	tell(t, n, 0, stream(seq+4, 2, pt(60, 1, 1), pt(61, 1, 1)), 0)
	list(t, "Ready", n.Ready(), 0)
	asksNothing(t, n, 0)
	list(t, "Points", n.Points(0, "a"), pt(5, 1, 1))
	list(t, "Points", n.Points(0, "b"), pt(6, 1, 1), pt(60, 1, 1), pt(61, 1, 1))
}

func TestPeersTakeTurns(t *testing.T) {
	n, _ := newcomer(t, config(), 0)
	for i := range 7 { // nobody answers
		request(t, n, i%3, metasRequest(i, 2, 0, 0, 0, ""))
	}
	request(t, n, 1, metasRequest(7, 2, 0, 0, 0, ""))
	tell(t, n, 1, paged(7, 2, false), 0) // 1 has given: the wanted ones are 0 and 2
	list(t, "Ready", n.Ready())
	request(t, n, 0, metasRequest(8, 2, 0, 0, 0, "")) // turn 8 of two
	request(t, n, 2, metasRequest(9, 2, 0, 0, 0, ""))
	tell(t, n, 2, paged(9, 2, false), 0)
	list(t, "Ready", n.Ready(), 0)
}

func TestARequestThatIsNotAnswered(t *testing.T) {
	n, _ := newcomer(t, config(), 0)
	request(t, n, 0, metasRequest(0, 2, 0, 0, 0, ""))
	tell(t, n, 0, paged(0, 2, true, mt("a", 0)), 0)
	request(t, n, 0, metasRequest(1, 2, 0, 0, 0, "a"))
	request(t, n, 1, metasRequest(2, 2, 0, 0, 0, "")) // from the start, of the next one
	tell(t, n, 0, paged(1, 2, false), 0)              // too late
	list(t, "Ready", n.Ready())
	request(t, n, 2, metasRequest(3, 2, 0, 0, 0, ""))
}

func TestAFetchThatFails(t *testing.T) {
	n, _ := newcomer(t, config(), 0)
	for i, m := range []wire.Message{
		{Kind: wire.Paged, Seq: 0, Epoch: 2, Err: api.ErrEpoch},
		{Kind: wire.Paged, Seq: 1, Epoch: 2, More: true},
		paged(2, 2, false, mt("b", 0), mt("a", 0)),
	} {
		request(t, n, i%3, metasRequest(i, 2, 0, 0, 0, ""))
		tell(t, n, i%3, m, 0)
	}
	request(t, n, 0, metasRequest(3, 2, 0, 0, 0, ""))
	tell(t, n, 0, paged(3, 2, false, mt("a", 0)), 0)
	request(t, n, 0, blockRequest(4, 2, 0, 0, 0, "a"))
	tell(t, n, 0, stream(4, 2, pt(60, 1, 1)), 0) // not of that block
	request(t, n, 1, metasRequest(5, 2, 0, 0, 0, ""))
}

func TestMessagesThatAreNotHeard(t *testing.T) {
	n, _ := newcomer(t, config(), 0)
	tell(t, n, 0, paged(0, 2, false), 0) // before any request
	request(t, n, 0, metasRequest(0, 2, 0, 0, 0, ""))
	for _, from := range []int{1, 2, 3, -1, 100} {
		tell(t, n, from, paged(0, 2, false), 0)
	}
	for _, epoch := range []int{0, 1, 3} {
		tell(t, n, 0, paged(0, epoch, false), 0)
	}
	for _, seq := range []int{1, 2, 99} {
		tell(t, n, 0, paged(seq, 2, false), 0)
	}
	tell(t, n, 0, stream(0, 2), 0)
	list(t, "Ready", n.Ready())
	request(t, n, 1, metasRequest(1, 2, 0, 0, 0, "")) // none was an answer
	tell(t, n, 0, paged(0, 2, false), 0)
	list(t, "Ready", n.Ready())
	tell(t, n, 1, paged(1, 2, false), 0)
	tell(t, n, 1, paged(1, 2, false), 0)
	request(t, n, 0, metasRequest(2, 2, 0, 0, 0, ""))
	tell(t, n, 0, paged(2, 2, false), 0)
	list(t, "Ready", n.Ready(), 0)
}

func TestOneAnswerATick(t *testing.T) {
	n, _ := newcomer(t, config(), 0)
	request(t, n, 0, metasRequest(0, 2, 0, 0, 0, ""))
	tell(t, n, 0, paged(0, 2, false, mt("a", 0)), 0)
	tell(t, n, 0, stream(1, 2, pt(5, 1, 1)), 0) // it is the answer to the request that comes next
	list(t, "Ready", n.Ready(), 0)
	list(t, "Points", n.Points(0, "a"), pt(5, 1, 1))
}

// P20.7

func TestWhatIsKept(t *testing.T) {
	n, d := newcomer(t, config(), 0)
	m := write("a", pt(5, 5, 5))
	m.Epoch = 2
	fails(t, n, m, 0, api.OK)
	m.P = pt(70, 5, 5)
	fails(t, n, m, 60, api.OK)
	request(t, n, 0, metasRequest(0, 2, 0, 0, 0, ""))
	tell(t, n, 0, paged(0, 2, false, mt("a", 0), mt("a", 60), mt("a", 120)), 0)
	asks(t, n, 0)
	tell(t, n, 0, stream(1, 2, pt(4, 1, 1), pt(5, 6, 6)), 0)
	asks(t, n, 0)
	tell(t, n, 0, stream(2, 2, pt(61, 1, 1), pt(70, 5, 5), pt(71, 1, 1)), 0)
	asks(t, n, 0)
	ops := d.Ops()
	tell(t, n, 0, stream(3, 2, pt(130, 1, 1)), 360) // the block 0 is past by now
	list(t, "Ready", n.Ready(), 0)
	list(t, "Points", n.Points(0, "a"), pt(5, 5, 5), pt(61, 1, 1), pt(70, 5, 5), pt(71, 1, 1), pt(130, 1, 1))
	want(t, "raw calls: two for each new point", d.Ops()-ops, 2*3)
	d.Crash(0, 0)
	n = open(t, d, config(), 3, 1, 0)
	list(t, "Points", n.Points(0, "a"), pt(5, 5, 5), pt(61, 1, 1), pt(70, 5, 5), pt(71, 1, 1), pt(130, 1, 1))
}

func TestOnlyPointsThatWinAreKept(t *testing.T) {
	for _, c := range []struct {
		p   api.Point
		ops int
	}{
		{pt(5, 5, 5), 0}, {pt(5, 4, 5), 0}, {pt(5, 9, 4), 0}, {pt(5, 6, 5), 2}, {pt(5, 0, 6), 2}, {pt(6, 0, 0), 2},
	} {
		n, d := newcomer(t, config(), 0)
		m := write("a", pt(5, 5, 5))
		m.Epoch = 2
		fails(t, n, m, 0, api.OK)
		ops := d.Ops()
		serve(t, n, 0, 0, of("a", c.p))
		want(t, fmt.Sprint("raw calls for ", c.p), d.Ops()-ops, c.ops)
		list(t, "Ready", n.Ready(), 0)
	}
}

func TestTheFirstAndTheLastTimeAreKept(t *testing.T) {
	c := config()
	c.Spaces[0].Future = api.MaxTime
	for range 2 {
		n, d := newcomer(t, c, 0)
		serve(t, n, 0, 0, of("a", pt(0, 1, 1)))
		list(t, "Points", n.Points(0, "a"), pt(0, 1, 1))
		want(t, "raw calls", d.Ops(), 2)
	}
	n, d := newcomer(t, c, 0)
	for _, x := range []int{0, api.MaxTime} {
		m := write("a", pt(x, 1, 1))
		m.Epoch = 2
		fails(t, n, m, 0, api.OK)
	}
	last := api.MaxTime - api.MaxTime%60
	request(t, n, 0, metasRequest(0, 2, 0, 0, 0, ""))
	tell(t, n, 0, paged(0, 2, false, mt("a", 0), mt("a", last), mt("b", last)), 0)
	for seq, l := range [][]api.Point{{pt(0, 1, 1)}, {pt(api.MaxTime, 1, 1)}, {pt(api.MaxTime, 2, 2)}} {
		asks(t, n, 0)
		tell(t, n, 0, stream(1+seq, 2, l...), 0)
	}
	list(t, "Ready", n.Ready(), 0)
	want(t, "raw calls: a is there already", d.Ops(), 4+2)
	list(t, "Points", n.Points(0, "a"), pt(0, 1, 1), pt(api.MaxTime, 1, 1))
	list(t, "Points", n.Points(0, "b"), pt(api.MaxTime, 2, 2))
}

func TestKeptFromTheOthers(t *testing.T) {
	n, _ := newcomer(t, config(), 0)
	asks(t, n, 0) // 0 does not answer
	serve(t, n, 1, 0, of("a", pt(5, 1, 1), pt(6, 2, 2)), of("b", pt(7, 1, 1)))
	list(t, "Ready", n.Ready())
	want(t, "Buffered", n.Buffered(), 0) // nothing is kept before the boot is done
	for range 4 {
		serve(t, n, 2, 0, of("a", pt(5, 2, 2), pt(8, 1, 1)))
	}
	list(t, "Ready", n.Ready(), 0)
	list(t, "Points", n.Points(0, "a"), pt(5, 2, 2), pt(6, 2, 2), pt(8, 1, 1))
	list(t, "Points", n.Points(0, "b"), pt(7, 1, 1))
}

func TestKeepingFails(t *testing.T) {
	d := disk.New(60) // room for two records
	n := open(t, d, config(), 3, 0, 0)
	n.Learn(comes(t))
	asks(t, n, 0)
	serve(t, n, 1, 0, of("a", pt(5, 1, 1), pt(6, 1, 1), pt(7, 1, 1)))
	serve(t, n, 2, 0)
	m, to := asks(t, n, 0)
	for to != 0 {
		m, to = asks(t, n, 0)
	}
	tell(t, n, 0, paged(m.Seq, 2, false), 0) // the source has nothing
	list(t, "Ready", n.Ready(), 0)

	n = open(t, d, config(), 3, 0, 0)
	n.Learn(comes(t))
	serve(t, n, 0, 0, of("a", pt(5, 1, 1), pt(6, 1, 1), pt(7, 1, 1)))
	list(t, "Ready", n.Ready()) // there was no room for the third one
	list(t, "Points", n.Points(0, "a"), pt(5, 1, 1), pt(6, 1, 1))
	_, to = asks(t, n, 0)
	want(t, "it starts again", to >= 0, true)

	n, d = newcomer(t, config(), 0)
	request(t, n, 0, metasRequest(0, 2, 0, 0, 0, ""))
	tell(t, n, 0, paged(0, 2, false, mt("a", 0)), 0)
	request(t, n, 0, blockRequest(1, 2, 0, 0, 0, "a"))
	d.Cut(3, 0, 0)
	tell(t, n, 0, stream(1, 2, pt(5, 1, 1), pt(6, 1, 1), pt(7, 1, 1)), 0)
	list(t, "Ready", n.Ready())
	list(t, "Points", n.Points(0, "a"), pt(5, 1, 1))
	d.Power()
	request(t, n, 1, metasRequest(2, 2, 0, 0, 0, "")) // all of the peers again
	tell(t, n, 1, paged(2, 2, false), 0)
	request(t, n, 0, metasRequest(3, 2, 0, 0, 0, ""))
	tell(t, n, 0, paged(3, 2, false, mt("a", 0)), 0)
	request(t, n, 0, blockRequest(4, 2, 0, 0, 0, "a"))
	tell(t, n, 0, stream(4, 2, pt(5, 1, 1), pt(6, 1, 1), pt(7, 1, 1)), 0)
	list(t, "Ready", n.Ready(), 0)
	list(t, "Points", n.Points(0, "a"), pt(5, 1, 1), pt(6, 1, 1), pt(7, 1, 1))
}

func TestKeepingFailsForAName(t *testing.T) {
	n, d := newcomer(t, config(), 0)
	request(t, n, 0, metasRequest(0, 2, 0, 0, 0, ""))
	tell(t, n, 0, paged(0, 2, false, mt("a", 0), mt("", 60)), 0) // that a page may have, a shard not
	request(t, n, 0, blockRequest(1, 2, 0, 0, 0, "a"))
	tell(t, n, 0, stream(1, 2, pt(5, 1, 1)), 0)
	request(t, n, 0, blockRequest(2, 2, 0, 0, 60, ""))
	tell(t, n, 0, stream(2, 2, pt(65, 1, 1)), 0)
	list(t, "Ready", n.Ready())
	want(t, "raw calls", d.Ops(), 0)
	request(t, n, 1, metasRequest(3, 2, 0, 0, 0, ""))
}

// P20.2 and P20.5: the jobs

// many is a placement in which 3 comes in three shards, with its version.
func many(t *testing.T) api.Placement {
	t.Helper()
	p, err := placement.Add(start(t, 3, 4), 3)
	if err != api.OK {
		t.Fatal(err)
	}
	return p
}

func TestJobsInOrder(t *testing.T) {
	n := open(t, disk.New(1<<20), wide(), 3, 0, 0)
	p := many(t) // of the shard 0 from 0, of 1 from 1, of 2 from 2
	n.Learn(p)
	var ready []int
	seq := 0
	for shard := range 3 {
		for space := range 2 {
			list(t, "Ready", n.Ready(), ready...)
			wanted := slices.Concat([]int{shard}, slices.DeleteFunc([]int{0, 1, 2}, func(x int) bool { return x == shard }))
			for wanted[seq%3] != shard {
				request(t, n, wanted[seq%3], metasRequest(seq, 2, space, shard, 0, ""))
				seq++
			}
			request(t, n, shard, metasRequest(seq, 2, space, shard, 0, ""))
			tell(t, n, shard, paged(seq, 2, false), 0)
			seq++
		}
		ready = append(ready, shard)
	}
	list(t, "Ready", n.Ready(), 0, 1, 2)
	asksNothing(t, n, 0)
}

// bootAll answers for the sources until the node asks no more, or has asked often.
func bootAll(t *testing.T, n *node.Node, steps int) {
	t.Helper()
	for range steps {
		l, err := n.Tick(0)
		want(t, "Tick", err, api.OK)
		if len(l) == 0 {
			return
		}
		m, _ := wire.Decode(l[0].Data)
		tell(t, n, l[0].To, paged(m.Seq, m.Epoch, false), 0)
	}
}

func TestLearnKeepsWhatIsReady(t *testing.T) {
	n := open(t, disk.New(1<<20), wide(), 3, 0, 0)
	p := many(t)
	n.Learn(p)
	bootAll(t, n, 100)
	list(t, "Ready", n.Ready(), 0, 1, 2)
	q, err := placement.Done(p, 1, 3)
	want(t, "Done", err, api.OK)
	n.Learn(q)
	list(t, "Ready after the next version", n.Ready(), 0, 2)
	asksNothing(t, n, 0)
	r, _ := placement.Done(q, 0, 3)
	s, _ := placement.Done(r, 2, 3)
	skip := open(t, disk.New(1<<20), wide(), 3, 0, 0)
	skip.Learn(p)
	bootAll(t, skip, 100)
	skip.Learn(r) // the version between is not known
	list(t, "Ready after a later version", skip.Ready())
	m, _ := asks(t, skip, 0)
	want(t, "it asks again", m.Shard, 2)
	n.Learn(r)
	list(t, "Ready", n.Ready(), 2)
	n.Learn(s)
	list(t, "Ready", n.Ready())
	asksNothing(t, n, 0)
}

func TestLearnStartsAgainWhatIsNotTheSame(t *testing.T) {
	n := open(t, disk.New(1<<20), config(), 3, 0, 0)
	p := comes(t)
	n.Learn(p)
	bootAll(t, n, 100)
	list(t, "Ready", n.Ready(), 0)
	other := api.Placement{Version: 3, Nodes: []int{0, 2, 3}, Shards: [][]api.Owner{{
		{Node: 0, State: api.Available, From: -1}, {Node: 1, State: api.Leaving, From: -1}, {Node: 2, State: api.Available, From: -1}, {Node: 3, State: api.Initializing, From: 1},
	}}}
	want(t, "Learn", n.Learn(other), true)
	list(t, "from another one", n.Ready())
	_, to := asks(t, n, 0)
	want(t, "request", to >= 0, true)

	n = open(t, disk.New(1<<20), wide(), 3, 0, 0) // one of two namespaces is ready
	n.Learn(p)
	bootAll(t, n, 1)
	p.Version++
	n.Learn(p)
	list(t, "Ready", n.Ready())
	m, to := asks(t, n, 0)
	want(t, "the namespace that is not ready", m.Space, 1)
	want(t, "the peers go on", to, 1)
}

func TestLearnDropsTheFetch(t *testing.T) {
	n, _ := newcomer(t, config(), 0)
	request(t, n, 0, metasRequest(0, 2, 0, 0, 0, ""))
	tell(t, n, 0, paged(0, 2, true, mt("a", 0)), 0)
	p := comes(t)
	p.Version = 3
	n.Learn(p)
	request(t, n, 1, metasRequest(1, 3, 0, 0, 0, "")) // from the start; Turn and Seq go on
	tell(t, n, 1, paged(1, 2, false), 0)              // an old epoch
	request(t, n, 2, metasRequest(2, 3, 0, 0, 0, ""))
}

func TestShardsBeyondTheConfiguration(t *testing.T) {
	n := open(t, disk.New(1<<20), config(), 3, 0, 0) // one shard; the placement has four
	n.Learn(many(t))
	request(t, n, 0, metasRequest(0, 2, 0, 0, 0, ""))
	tell(t, n, 0, paged(0, 2, false), 0)
	list(t, "Ready", n.Ready(), 0)
	asksNothing(t, n, 0)
}

func TestRepairJobs(t *testing.T) {
	n, d := at(t, config())
	put(t, n, 0, "a", pt(5, 1, 1))
	asksNothing(t, n, 0)
	want(t, "Repair", n.Repair(0, 0, 2), api.OK)
	want(t, "Repair", n.Repair(0, 0, 1), api.OK)
	want(t, "Repair", n.Repair(0, 0, 1), api.OK)
	list(t, "Ready", n.Ready())
	request(t, n, 2, metasRequest(0, 1, 0, 0, 0, ""))
	request(t, n, 2, metasRequest(1, 1, 0, 0, 0, "")) // it has no other peer
	tell(t, n, 2, paged(1, 1, false, mt("a", 0)), 0)
	request(t, n, 2, blockRequest(2, 1, 0, 0, 0, "a"))
	ops := d.Ops()
	tell(t, n, 2, stream(2, 1, pt(4, 1, 1), pt(5, 0, 0)), 0)
	want(t, "raw calls", d.Ops()-ops, 2)
	list(t, "Points", n.Points(0, "a"), pt(4, 1, 1), pt(5, 1, 1))
	list(t, "Ready", n.Ready())
	request(t, n, 1, metasRequest(3, 1, 0, 0, 0, ""))
	tell(t, n, 1, paged(3, 1, false), 0)
	request(t, n, 1, metasRequest(4, 1, 0, 0, 0, ""))
	tell(t, n, 1, paged(4, 1, false), 0)
	asksNothing(t, n, 0)

	n.Repair(0, 0, 2) // discarded by Learn
	asks(t, n, 0)
	p := start(t, 3, 1)
	p.Version = 2
	n.Learn(p)
	asksNothing(t, n, 0)
}

func TestARepairThatFails(t *testing.T) {
	n, d := at(t, config())
	n.Repair(0, 0, 2)
	request(t, n, 2, metasRequest(0, 1, 0, 0, 0, ""))
	tell(t, n, 2, paged(0, 1, false, mt("a", 0)), 0)
	request(t, n, 2, blockRequest(1, 1, 0, 0, 0, "a"))
	d.Cut(0, 0, 0)
	tell(t, n, 2, stream(1, 1, pt(4, 1, 1)), 0)
	d.Power()
	list(t, "Points", n.Points(0, "a"))
	request(t, n, 2, metasRequest(2, 1, 0, 0, 0, ""))
	serve(t, n, 2, 0, of("a", pt(4, 1, 1)))
	list(t, "Points", n.Points(0, "a"), pt(4, 1, 1))
	asksNothing(t, n, 0)
}

func TestRepairsComeAfterBoots(t *testing.T) {
	// node 3 comes in the shard 0 and is available in the shard 1
	p := api.Placement{Version: 2, Nodes: []int{0, 1, 2, 3}, Shards: [][]api.Owner{
		comes(t).Shards[0],
		{{Node: 1, State: api.Available, From: -1}, {Node: 2, State: api.Available, From: -1}, {Node: 3, State: api.Available, From: -1}},
	}}
	c := config()
	c.Shards = 2
	n := open(t, disk.New(1<<20), c, 3, 0, 0)
	want(t, "Learn", n.Learn(p), true)
	want(t, "Repair", n.Repair(0, 1, 2), api.OK)
	request(t, n, 0, metasRequest(0, 2, 0, 0, 0, ""))
	tell(t, n, 0, paged(0, 2, false), 0)
	list(t, "Ready", n.Ready(), 0)
	request(t, n, 2, metasRequest(1, 2, 0, 1, 0, ""))
	tell(t, n, 2, paged(1, 2, false), 0)
	asksNothing(t, n, 0)
	list(t, "Ready", n.Ready(), 0)
}

// P20.9

func TestAcknowledgedPointsStay(t *testing.T) {
	for seed := range int64(120) {
		r := rand.New(rand.NewSource(seed))
		d := disk.New(800 + r.Intn(6000))
		now, life := 0, 0
		n := open(t, d, wide(), 0, life, now)
		n.Learn(start(t, 3, 4))
		best := map[string]map[int]api.Point{} // acknowledged, by name
		sent := map[api.Point]bool{}
		for step := range 80 {
			if r.Intn(6) == 0 {
				d.Cut(r.Intn(20), r.Intn(6), r.Intn(30))
			}
			id := named(r.Intn(4), 4)
			switch k := r.Intn(10); {
			case k == 0:
				now += r.Intn(60)
				n.Tick(now)
			default:
				p := pt(max(0, now-r.Intn(100)), uint64(step), uint64(step))
				sent[p] = true
				b, _ := wire.Encode(write(id, p))
				l := n.Handle(100, b, now)
				if len(l) == 0 {
					break
				}
				if m, _ := wire.Decode(l[0].Data); m.Err == api.OK {
					if best[id] == nil {
						best[id] = map[int]api.Point{}
					}
					best[id][p.T] = p
				}
			}
			if d.Dead() || r.Intn(12) == 0 {
				d.Crash(r.Intn(6), r.Intn(30))
				d.Power()
				life++
				n = open(t, d, wide(), 0, life, now)
				n.Learn(start(t, 3, 4))
			}
			for id, m := range best {
				got := map[int]api.Point{}
				for _, p := range n.Points(0, id) {
					got[p.T] = p
					want(t, "a point that was sent", sent[p], true)
				}
				for x, p := range m {
					if x/60*60+60 > now-300 && got[x].S < p.S {
						t.Fatalf("seed %d, step %d: %s: got %v, want %v", seed, step, id, got[x], p)
					}
				}
			}
		}
	}
}

func TestRefusedRequestsChangeNothing(t *testing.T) {
	n, d := at(t, config())
	put(t, n, 0, "a", pt(5, 1, 1))
	ops, files := d.Ops(), d.Names()
	for _, m := range []wire.Message{
		{Kind: wire.Write, Epoch: 2, ID: "a", P: pt(6, 1, 1)}, {Kind: wire.Write, Epoch: 1, Space: 1, ID: "a", P: pt(6, 1, 1)},
		{Kind: wire.Write, Epoch: 1, P: pt(6, 1, 1)}, {Kind: wire.Write, Epoch: 1, ID: "a", P: pt(600, 1, 1)},
		{Kind: wire.Read, Epoch: 9, ID: "a"}, {Kind: wire.Metas, Epoch: 9}, {Kind: wire.Block, Epoch: 9}, {Kind: wire.Block, Epoch: 1, Shard: 1},
	} {
		a := say(t, n, m, 0)
		want(t, "refused", a.Err != api.OK, true)
	}
	n.Handle(1, []byte("no message"), math.MaxInt)
	list(t, "Points", n.Points(0, "a"), pt(5, 1, 1))
	want(t, "raw calls", d.Ops(), ops)
	list(t, "files", d.Names(), files...)
	asksNothing(t, n, 0)
}
