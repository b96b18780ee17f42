package cluster_test

import (
	"fmt"
	"math"
	"reflect"
	"slices"
	"testing"

	"thermograph/api"
	"thermograph/cluster"
	"thermograph/digest"
	"thermograph/placement"
	"thermograph/session"
	"thermograph/wire"
)

const end = api.MaxTime + 1

func want[T comparable](t *testing.T, what string, got, want T) {
	t.Helper()
	if got != want {
		t.Errorf("%s: got %v, want %v", what, got, want)
	}
}

func list[T comparable](t *testing.T, what string, got []T, want ...T) {
	t.Helper()
	if !slices.Equal(got, want) {
		t.Errorf("%s: got %v, want %v", what, got, want)
	}
}

func pt(t int, v, s uint64) api.Point { return api.Point{T: t, V: v, S: s} }

func config(shards int) api.Config {
	return api.Config{Spaces: []api.Space{{Retention: 300, Block: 60, Future: 1000}}, Shards: shards}
}

func opened(t *testing.T, nodes, sessions, shards int) *cluster.Cluster {
	t.Helper()
	c, err := cluster.New(config(shards), nodes, sessions, 1<<20)
	if err != api.OK {
		t.Fatal(err)
	}
	return c
}

type event = cluster.Event

// do processes an event, which is to return 0 and the error.
func do(t *testing.T, c *cluster.Cluster, e event, err api.Errno) {
	t.Helper()
	n, got := c.Do(e)
	if n != 0 || got != err {
		t.Errorf("%+v: got %d, %v, want %v", e, n, got, err)
	}
}

// op processes an event that starts an operation.
func op(t *testing.T, c *cluster.Cluster, e event) int {
	t.Helper()
	n, err := c.Do(e)
	if n < 1 || err != api.OK {
		t.Fatalf("%+v: got %d, %v", e, n, err)
	}
	return n
}

func write(t *testing.T, c *cluster.Cluster, id string, at int, v uint64) int {
	t.Helper()
	return op(t, c, event{Kind: cluster.EvWrite, ID: id, C: at, V: v})
}

func read(t *testing.T, c *cluster.Cluster, id string) int {
	t.Helper()
	return op(t, c, event{Kind: cluster.EvRead, ID: id, R: api.Range{To: end}})
}

// takeAll delivers packets until there are none.
func takeAll(t *testing.T, c *cluster.Cluster) {
	t.Helper()
	for len(c.Packets()) > 0 {
		do(t, c, event{Kind: cluster.EvTake}, api.OK)
	}
}

// learnAll tells all nodes that are up and all sessions.
func learnAll(t *testing.T, c *cluster.Cluster, nodes, sessions int) {
	t.Helper()
	for i := range nodes {
		if c.Up(i) {
			do(t, c, event{Kind: cluster.EvLearn, A: i}, api.OK)
		}
	}
	for i := range sessions {
		do(t, c, event{Kind: cluster.EvLearn, A: session.Base + i}, api.OK)
	}
}

// placed is a cluster with a placement of its first nodes, that all have learnt.
func placed(t *testing.T, nodes, used, sessions, shards int) *cluster.Cluster {
	t.Helper()
	c := opened(t, nodes, sessions, shards)
	do(t, c, event{Kind: cluster.EvAdmin, A: cluster.AdInit, B: used}, api.OK)
	learnAll(t, c, nodes, sessions)
	return c
}

// bringIn ticks a node and delivers all until the node has brought in all shards that it can, and lets it have them.
func bringIn(t *testing.T, c *cluster.Cluster, node, nodes, sessions int) {
	t.Helper()
	for range 300 {
		do(t, c, event{Kind: cluster.EvTick, A: node}, api.OK)
		takeAll(t, c)
		if len(c.Ready(node)) > 0 {
			do(t, c, event{Kind: cluster.EvReady, A: node}, api.OK)
			learnAll(t, c, nodes, sessions)
		}
	}
}

func version(c *cluster.Cluster) int {
	p, _ := c.Placement()
	return p.Version
}

func result(t *testing.T, c *cluster.Cluster, s, op, state int, err api.Errno, l ...api.Point) {
	t.Helper()
	r := c.Result(s, op)
	if r.State != state || r.Err != err || !slices.Equal(r.Points, l) {
		t.Errorf("Result(%d, %d): got %+v, want %d, %v, %v", s, op, r, state, err, l)
	}
}

// named returns a name whose shard is the given one.
func named(shard, shards int) string {
	for i := 0; ; i++ {
		if id := fmt.Sprint("n", i); digest.Shard(id, shards) == shard {
			return id
		}
	}
}

// P22.1

func TestNew(t *testing.T) {
	for _, c := range []struct {
		c               api.Config
		nodes, sessions int
		err             api.Errno
	}{
		{config(1), 3, 1, api.OK}, {config(8), 8, 4, api.OK},
		{config(0), 3, 1, api.ErrArg}, {config(9), 3, 1, api.ErrArg}, {api.Config{Shards: 1}, 3, 1, api.ErrArg}, {api.Config{Spaces: []api.Space{{}}, Shards: 1}, 3, 1, api.ErrArg},
		{config(1), 2, 1, api.ErrArg}, {config(1), 9, 1, api.ErrArg}, {config(1), -1, 1, api.ErrArg},
		{config(1), 3, 0, api.ErrArg}, {config(1), 3, 5, api.ErrArg}, {config(1), 3, math.MinInt, api.ErrArg},
	} {
		for _, room := range []int{0, -5, math.MaxInt} {
			x, err := cluster.New(c.c, c.nodes, c.sessions, room)
			want(t, fmt.Sprint(c), err, c.err)
			want(t, "cluster", x != nil, c.err == api.OK)
		}
	}
	c := opened(t, 4, 2, 1)
	p, ok := c.Placement()
	want(t, "Placement", ok, false)
	want(t, "Placement", reflect.DeepEqual(p, api.Placement{}), true)
	for i := -1; i < 9; i++ {
		want(t, fmt.Sprint("Up ", i), c.Up(i), i >= 0 && i < 4)
		want(t, fmt.Sprint("Clock ", i), c.Clock(i), 0)
		want(t, "Ready", len(c.Ready(i)), 0)
		want(t, "Points", len(c.Points(i, 0, "a")), 0)
		result(t, c, i, 1, 0, api.OK)
	}
	want(t, "Packets", len(c.Packets()), 0)
}

func TestRoomOfTheDisks(t *testing.T) {
	c, _ := cluster.New(config(1), 3, 1, 30) // one record fits
	do(t, c, event{Kind: cluster.EvAdmin, B: 3}, api.OK)
	learnAll(t, c, 3, 1)
	a, b := write(t, c, "a", 5, 1), write(t, c, "a", 6, 2)
	takeAll(t, c)
	result(t, c, 0, a, session.Succeeded, api.OK)
	result(t, c, 0, b, session.Failed, api.ErrFull)
	list(t, "Points", c.Points(1, 0, "a"), pt(5, 1, 256))
}

// P22.2

func TestExample(t *testing.T) {
	c := opened(t, 3, 1, 1)
	do(t, c, event{Kind: cluster.EvAdmin, A: cluster.AdInit, B: 3}, api.OK)
	for _, a := range []int{0, 1, 2, 100} {
		do(t, c, event{Kind: cluster.EvLearn, A: a}, api.OK)
	}
	want(t, "EvWrite", write(t, c, "a", 5, 1), 1)
	want(t, "packets", len(c.Packets()), 3)
	for range 6 {
		do(t, c, event{Kind: cluster.EvTake}, api.OK)
	}
	do(t, c, event{Kind: cluster.EvTake}, api.ErrNone)
	result(t, c, 0, 1, session.Succeeded, api.OK)
	do(t, c, event{Kind: cluster.EvCrash}, api.OK)
	r := read(t, c, "a")
	takeAll(t, c)
	result(t, c, 0, r, session.Succeeded, api.OK, pt(5, 1, 256))
}

func TestKinds(t *testing.T) {
	c := placed(t, 3, 3, 1, 1)
	for _, kind := range []int{0, -1, 16, 99, math.MinInt, math.MaxInt} {
		do(t, c, event{Kind: kind}, api.ErrArg)
	}
	for _, kind := range []int{cluster.EvTick, cluster.EvCrash, cluster.EvCut, cluster.EvStart, cluster.EvLose, cluster.EvReady, cluster.EvRepair} {
		for _, a := range []int{-1, 3, 7, 100, math.MinInt, math.MaxInt} {
			do(t, c, event{Kind: kind, A: a, B: 5, V: 999}, api.ErrArg)
		}
	}
	for _, kind := range []int{cluster.EvWrite, cluster.EvRead, cluster.EvResend} {
		for _, a := range []int{-1, 1, 3, 100, math.MinInt, math.MaxInt} {
			do(t, c, event{Kind: kind, A: a, ID: "a", B: 99}, api.ErrArg)
		}
	}
	for i := range 3 {
		want(t, "Up", c.Up(i), true)
		want(t, "Clock", c.Clock(i), 0)
	}
	want(t, "the numbers", fmt.Sprint(cluster.EvTake, cluster.EvDrop, cluster.EvDouble, cluster.EvTick, cluster.EvCrash, cluster.EvCut, cluster.EvStart, cluster.EvLose,
		cluster.EvAdmin, cluster.EvLearn, cluster.EvReady, cluster.EvWrite, cluster.EvRead, cluster.EvResend, cluster.EvRepair), "1 2 3 4 5 6 7 8 9 10 11 12 13 14 15")
	want(t, "the numbers", fmt.Sprint(cluster.AdInit, cluster.AdAdd, cluster.AdRemove, cluster.AdReplace), "0 1 2 3")
}

func TestPackets(t *testing.T) {
	c := placed(t, 3, 3, 2, 1)
	for _, kind := range []int{cluster.EvTake, cluster.EvDrop, cluster.EvDouble} {
		for _, a := range []int{0, -1, 3, math.MaxInt} {
			do(t, c, event{Kind: kind, A: a}, api.ErrNone)
		}
	}
	w := op(t, c, event{Kind: cluster.EvWrite, A: 1, ID: "a", C: 5, V: 1})
	l := c.Packets()
	for i, p := range l {
		want(t, "from", p.From, 101)
		want(t, "to", p.To, i)
	}
	l[0].Data[0] = 99
	want(t, "packets are apart", c.Packets()[0].Data[0], wire.Write)
	do(t, c, event{Kind: cluster.EvDrop, A: 1}, api.OK)
	do(t, c, event{Kind: cluster.EvDouble, A: 0}, api.OK)
	var to []int
	for _, p := range c.Packets() {
		to = append(to, p.To)
	}
	list(t, "packets", to, 0, 2, 0)
	do(t, c, event{Kind: cluster.EvTake, A: 1}, api.OK)
	list(t, "Points", c.Points(2, 0, "a"), pt(5, 1, 257))
	list(t, "Points", c.Points(0, 0, "a"))
	p := c.Packets()[2]
	want(t, "the answer", fmt.Sprint(p.From, p.To, p.Data[0]), "2 101 2")
	takeAll(t, c)
	result(t, c, 1, w, session.Succeeded, api.OK)
	result(t, c, 0, w, 0, api.OK)
	list(t, "Points", c.Points(1, 0, "a"))
}

func TestPacketsToWhoIsDown(t *testing.T) {
	c := placed(t, 3, 3, 1, 1)
	w := write(t, c, "a", 5, 1)
	do(t, c, event{Kind: cluster.EvCrash, A: 0}, api.OK)
	do(t, c, event{Kind: cluster.EvCrash, A: 1}, api.OK)
	takeAll(t, c)
	result(t, c, 0, w, session.Pending, api.OK)
	do(t, c, event{Kind: cluster.EvStart, A: 1}, api.OK)
	do(t, c, event{Kind: cluster.EvResend, B: w}, api.OK)
	want(t, "requests", len(c.Packets()), 2) // to those that have not answered
	takeAll(t, c)
	result(t, c, 0, w, session.Succeeded, api.OK)
	do(t, c, event{Kind: cluster.EvResend, B: w}, api.OK)
	do(t, c, event{Kind: cluster.EvResend, B: 99}, api.OK)
	want(t, "requests", len(c.Packets()), 0)
}

func TestFullNet(t *testing.T) {
	c := placed(t, 3, 3, 1, 1)
	for i := range 90 { // 270 packets
		write(t, c, "a", i, 1)
	}
	want(t, "packets", len(c.Packets()), 256)
	result(t, c, 0, 90, session.Pending, api.OK)
	do(t, c, event{Kind: cluster.EvDouble}, api.ErrFull)
	do(t, c, event{Kind: cluster.EvTake}, api.OK) // there is room for its answer
	want(t, "packets", len(c.Packets()), 256)
	takeAll(t, c)
	result(t, c, 0, 85, session.Succeeded, api.OK)
	result(t, c, 0, 90, session.Pending, api.OK)
}

func TestTick(t *testing.T) {
	c := placed(t, 3, 3, 1, 1)
	for _, x := range []struct{ by, clock int }{{5, 5}, {0, 5}, {-3, 5}, {math.MinInt, 5}, {10, 15}, {api.MaxTime - 16, api.MaxTime - 1}, {2, api.MaxTime}, {math.MaxInt, api.MaxTime}, {1, api.MaxTime}} {
		do(t, c, event{Kind: cluster.EvTick, A: 1, B: x.by}, api.OK)
		want(t, "Clock", c.Clock(1), x.clock)
		want(t, "the others' clocks", c.Clock(0)+c.Clock(2), 0)
	}
	do(t, c, event{Kind: cluster.EvCrash, A: 0}, api.OK)
	do(t, c, event{Kind: cluster.EvTick, A: 0, B: 7}, api.OK)
	want(t, "the clock of a node that is down", c.Clock(0), 7)
	do(t, c, event{Kind: cluster.EvTick, A: 0, B: math.MaxInt}, api.OK)
	want(t, "Clock", c.Clock(0), api.MaxTime)
}

func TestTicksOfNodes(t *testing.T) {
	c := placed(t, 3, 3, 1, 1)
	w := write(t, c, "a", 5, 1)
	takeAll(t, c)
	result(t, c, 0, w, session.Succeeded, api.OK)
	do(t, c, event{Kind: cluster.EvCut, A: 0, B: 4}, api.OK)
	do(t, c, event{Kind: cluster.EvTick, A: 0, B: 60}, api.ErrDead) // in the midst of its volume
	want(t, "Up", c.Up(0), false)
	want(t, "Clock", c.Clock(0), 60)
	do(t, c, event{Kind: cluster.EvStart, A: 0}, api.OK)
	do(t, c, event{Kind: cluster.EvTick, A: 0}, api.OK)
	list(t, "Points", c.Points(0, 0, "a"), pt(5, 1, 256))
	do(t, c, event{Kind: cluster.EvTick, A: 0, B: 300}, api.OK)
	list(t, "Points past the retention", c.Points(0, 0, "a"))
	w = write(t, c, "a", 59, 2) // too early for the clock of 0, not for the others
	takeAll(t, c)
	result(t, c, 0, w, session.Succeeded, api.OK)
	list(t, "Points", c.Points(0, 0, "a"))
	list(t, "Points", c.Points(1, 0, "a"), pt(5, 1, 256), pt(59, 2, 512))
}

func TestCrash(t *testing.T) {
	c := placed(t, 3, 3, 1, 1)
	w := write(t, c, "a", 5, 1)
	takeAll(t, c)
	result(t, c, 0, w, session.Succeeded, api.OK)
	for _, keep := range []int{0, 9} {
		do(t, c, event{Kind: cluster.EvCrash, A: 1, B: keep, C: 3}, api.OK)
		want(t, "Up", c.Up(1), false)
		list(t, "Points of a node that is down", c.Points(1, 0, "a"))
		list(t, "Ready of a node that is down", c.Ready(1))
		do(t, c, event{Kind: cluster.EvCrash, A: 1}, api.ErrNone)
		do(t, c, event{Kind: cluster.EvLearn, A: 1}, api.ErrNone)
		do(t, c, event{Kind: cluster.EvReady, A: 1}, api.ErrNone)
		do(t, c, event{Kind: cluster.EvRepair, A: 1, V: 999}, api.ErrNone)
		do(t, c, event{Kind: cluster.EvStart, A: 1}, api.OK)
		do(t, c, event{Kind: cluster.EvStart, A: 1}, api.ErrBusy)
		list(t, "Points", c.Points(1, 0, "a"), pt(5, 1, 256))
	}
}

func TestCut(t *testing.T) {
	for n, keep := range []int{0, 0, 9} {
		c := placed(t, 3, 3, 1, 1)
		do(t, c, event{Kind: cluster.EvCut, A: 2, B: n, C: keep}, api.OK)
		want(t, "Up", c.Up(2), true)
		w := write(t, c, "a", 5, 1)
		do(t, c, event{Kind: cluster.EvTake, A: 2}, api.OK)
		want(t, "Up", c.Up(2), n == 2)
		want(t, "an answer, unless the power was lost", len(c.Packets()), 2+n/2)
		takeAll(t, c)
		result(t, c, 0, w, session.Succeeded, api.OK)
		if n == 2 {
			do(t, c, event{Kind: cluster.EvTick, A: 2, B: 60}, api.ErrDead)
			want(t, "Up", c.Up(2), false)
		}
		do(t, c, event{Kind: cluster.EvCut, A: 2, B: 0, C: 0}, api.OK) // of a node that is down: Start cancels it
		do(t, c, event{Kind: cluster.EvStart, A: 2}, api.OK)
		do(t, c, event{Kind: cluster.EvTick, A: 2, B: 60}, api.OK)
		want(t, "Up", c.Up(2), true)
	}
}

func TestCutKeeps(t *testing.T) {
	for keep, points := range [][]api.Point{nil, {pt(5, 1, 256)}} {
		c := placed(t, 3, 3, 1, 1)
		do(t, c, event{Kind: cluster.EvCut, A: 2, B: 1, C: keep}, api.OK)
		write(t, c, "a", 5, 1)
		takeAll(t, c)
		want(t, "Up", c.Up(2), false)
		do(t, c, event{Kind: cluster.EvStart, A: 2}, api.OK)
		list(t, "Points", c.Points(2, 0, "a"), points...)
	}
}

func TestStart(t *testing.T) {
	c := opened(t, 4, 1, 1)
	do(t, c, event{Kind: cluster.EvStart, A: 0}, api.ErrBusy)
	do(t, c, event{Kind: cluster.EvCrash, A: 0}, api.OK)
	do(t, c, event{Kind: cluster.EvStart, A: 0}, api.OK) // without a placement
	do(t, c, event{Kind: cluster.EvAdmin, B: 4}, api.OK)
	do(t, c, event{Kind: cluster.EvLearn, A: 100}, api.OK)
	write(t, c, "a", 5, 1)
	takeAll(t, c)
	list(t, "Points of a node that knows no placement", c.Points(0, 0, "a"))
	do(t, c, event{Kind: cluster.EvCrash, A: 0}, api.OK)
	do(t, c, event{Kind: cluster.EvStart, A: 0}, api.OK) // learns it
	do(t, c, event{Kind: cluster.EvResend, B: 1}, api.OK)
	write(t, c, "a", 6, 1)
	takeAll(t, c)
	want(t, "points", len(c.Points(0, 0, "a")), 1)
}

// requestOf ticks a node and returns the Seq of its request.
func requestOf(t *testing.T, c *cluster.Cluster, node int) int {
	t.Helper()
	do(t, c, event{Kind: cluster.EvTick, A: node}, api.OK)
	l := c.Packets()
	m, err := wire.Decode(l[len(l)-1].Data)
	want(t, "a message", err, api.OK)
	return m.Seq
}

func TestLives(t *testing.T) {
	c := placed(t, 4, 3, 1, 1)
	do(t, c, event{Kind: cluster.EvAdmin, A: cluster.AdReplace, B: 0, C: 3}, api.OK)
	do(t, c, event{Kind: cluster.EvLearn, A: 3}, api.OK)
	for life := range 4 {
		want(t, "Seq", requestOf(t, c, 3), life<<24)
		want(t, "Seq", requestOf(t, c, 3), life<<24+1)
		do(t, c, event{Kind: cluster.EvCrash, A: 3}, api.OK)
		do(t, c, event{Kind: cluster.EvStart, A: 3}, api.OK)
	}
}

func TestNoLifeIsLeft(t *testing.T) {
	c := opened(t, 3, 1, 1)
	for range 65535 {
		c.Do(event{Kind: cluster.EvCrash})
		c.Do(event{Kind: cluster.EvStart})
	}
	want(t, "Up", c.Up(0), true)
	do(t, c, event{Kind: cluster.EvCrash}, api.OK)
	do(t, c, event{Kind: cluster.EvStart}, api.ErrArg)
	want(t, "Up", c.Up(0), false)
	do(t, c, event{Kind: cluster.EvStart}, api.ErrArg)
	do(t, c, event{Kind: cluster.EvCrash}, api.ErrNone)
	do(t, c, event{Kind: cluster.EvTick, B: 5}, api.OK)
	want(t, "Clock", c.Clock(0), 5)
}

func TestStartAtTheClock(t *testing.T) {
	c := placed(t, 3, 3, 1, 1)
	write(t, c, "a", 5, 1)
	write(t, c, "a", 65, 1)
	takeAll(t, c)
	do(t, c, event{Kind: cluster.EvCrash, A: 1}, api.OK)
	do(t, c, event{Kind: cluster.EvTick, A: 1, B: 360}, api.OK)
	do(t, c, event{Kind: cluster.EvStart, A: 1}, api.OK)
	want(t, "points that are not past", len(c.Points(1, 0, "a")), 1)
}

func TestLose(t *testing.T) {
	c := placed(t, 4, 3, 1, 1)
	do(t, c, event{Kind: cluster.EvLose, A: 0}, api.OK)
	want(t, "Up", c.Up(0), false)
	do(t, c, event{Kind: cluster.EvLose, A: 0}, api.ErrNone)
	do(t, c, event{Kind: cluster.EvStart, A: 0}, api.ErrNone)
	do(t, c, event{Kind: cluster.EvCrash, A: 0}, api.ErrNone)
	do(t, c, event{Kind: cluster.EvCut, A: 0}, api.OK)
	do(t, c, event{Kind: cluster.EvTick, A: 0, B: 5}, api.OK)
	want(t, "Clock", c.Clock(0), 5)
	do(t, c, event{Kind: cluster.EvCrash, A: 1}, api.OK)
	do(t, c, event{Kind: cluster.EvLose, A: 1}, api.OK) // one that is down
	do(t, c, event{Kind: cluster.EvStart, A: 1}, api.ErrNone)
	list(t, "up", []bool{c.Up(0), c.Up(1), c.Up(2), c.Up(3)}, false, false, true, true)
}

func TestAdmin(t *testing.T) {
	c := opened(t, 5, 1, 4)
	for _, x := range []struct {
		a, b, c int
		err     api.Errno
	}{
		{4, 0, 0, api.ErrArg}, {-1, 0, 0, api.ErrArg}, {math.MaxInt, 0, 0, api.ErrArg},
		{cluster.AdAdd, 4, 0, api.ErrForm}, {cluster.AdRemove, 0, 0, api.ErrForm}, {cluster.AdReplace, 0, 4, api.ErrForm},
		{cluster.AdAdd, 5, 0, api.ErrArg}, {cluster.AdReplace, 0, 5, api.ErrArg},
		{cluster.AdInit, 6, 0, api.ErrArg}, {cluster.AdInit, math.MaxInt, 0, api.ErrArg},
		{cluster.AdInit, 2, 0, api.ErrNodes}, {cluster.AdInit, 0, 0, api.ErrNodes}, {cluster.AdInit, -7, 0, api.ErrNodes}, {cluster.AdInit, math.MinInt, 0, api.ErrNodes},
		{cluster.AdInit, 3, 0, api.OK}, {cluster.AdInit, 3, 0, api.ErrStale}, {cluster.AdInit, 4, 0, api.ErrStale}, {cluster.AdInit, 6, 0, api.ErrArg}, {cluster.AdInit, 2, 0, api.ErrNodes},
		{cluster.AdAdd, 5, 0, api.ErrArg}, {cluster.AdAdd, -1, 0, api.ErrArg}, {cluster.AdAdd, 7, 0, api.ErrArg}, {cluster.AdAdd, 0, 0, api.ErrNodes},
		{cluster.AdRemove, 0, 0, api.ErrNodes}, {cluster.AdRemove, 99, 0, api.ErrNodes}, {cluster.AdRemove, math.MinInt, 0, api.ErrNodes},
		{cluster.AdReplace, 0, 5, api.ErrArg}, {cluster.AdReplace, 0, -1, api.ErrArg}, {cluster.AdReplace, 3, 4, api.ErrNodes}, {cluster.AdReplace, 99, 4, api.ErrNodes}, {cluster.AdReplace, 0, 1, api.ErrNodes},
	} {
		before, _ := c.Placement()
		do(t, c, event{Kind: cluster.EvAdmin, A: x.a, B: x.b, C: x.c}, x.err)
		if after, _ := c.Placement(); x.err != api.OK && !reflect.DeepEqual(before, after) {
			t.Errorf("%v: the placement has changed", x)
		}
	}
	p, ok := c.Placement()
	first, _ := placement.Init([]int{0, 1, 2}, 4)
	want(t, "Placement", ok && reflect.DeepEqual(p, first), true)
	p.Nodes[0], p.Shards[0] = 9, nil
	do(t, c, event{Kind: cluster.EvAdmin, A: cluster.AdAdd, B: 3}, api.OK)
	p, _ = c.Placement()
	second, _ := placement.Add(first, 3)
	want(t, "after Add", reflect.DeepEqual(p, second), true)
	do(t, c, event{Kind: cluster.EvAdmin, A: cluster.AdAdd, B: 4}, api.ErrBusy)
	do(t, c, event{Kind: cluster.EvAdmin, A: cluster.AdRemove, B: 0}, api.ErrBusy)
	do(t, c, event{Kind: cluster.EvAdmin, A: cluster.AdReplace, B: 0, C: 4}, api.ErrBusy)
	learnAll(t, c, 5, 1)
	bringIn(t, c, 3, 5, 1)
	p, _ = c.Placement()
	do(t, c, event{Kind: cluster.EvAdmin, A: cluster.AdReplace, B: 1, C: 4}, api.OK)
	q, _ := c.Placement()
	third, _ := placement.Replace(p, 1, 4)
	want(t, "after Replace", reflect.DeepEqual(q, third), true)
	learnAll(t, c, 5, 1)
	bringIn(t, c, 4, 5, 1)
	p, _ = c.Placement()
	do(t, c, event{Kind: cluster.EvAdmin, A: cluster.AdRemove, B: 0}, api.OK)
	q, _ = c.Placement()
	fourth, _ := placement.Remove(p, 0)
	want(t, "after Remove", reflect.DeepEqual(q, fourth), true)
}

func TestLearn(t *testing.T) {
	c := opened(t, 3, 2, 1)
	for _, a := range []int{-1, 3, 7, 99, 102, math.MinInt, math.MaxInt} {
		do(t, c, event{Kind: cluster.EvLearn, A: a}, api.ErrArg)
	}
	for _, a := range []int{0, 2, 100, 101} {
		do(t, c, event{Kind: cluster.EvLearn, A: a}, api.ErrNone)
	}
	do(t, c, event{Kind: cluster.EvAdmin, B: 3}, api.OK)
	_, err := c.Do(event{Kind: cluster.EvWrite, ID: "a", C: 5})
	want(t, "a session that has not learnt", err, api.ErrNodes)
	do(t, c, event{Kind: cluster.EvLearn, A: 100}, api.OK)
	do(t, c, event{Kind: cluster.EvLearn, A: 100}, api.OK) // nothing new
	w := write(t, c, "a", 5, 1)
	_, err = c.Do(event{Kind: cluster.EvWrite, A: 1, ID: "a", C: 5})
	want(t, "the other session", err, api.ErrNodes)
	do(t, c, event{Kind: cluster.EvLearn, A: 1}, api.OK)
	takeAll(t, c)
	result(t, c, 0, w, session.Failed, api.ErrEpoch) // two nodes have not learnt
	list(t, "Points", c.Points(1, 0, "a"), pt(5, 1, 256))
	do(t, c, event{Kind: cluster.EvCrash, A: 0}, api.OK)
	do(t, c, event{Kind: cluster.EvLearn, A: 0}, api.ErrNone)
}

func TestReady(t *testing.T) {
	c := placed(t, 4, 3, 1, 2)
	do(t, c, event{Kind: cluster.EvReady, A: 0}, api.ErrNone)
	do(t, c, event{Kind: cluster.EvAdmin, A: cluster.AdReplace, B: 0, C: 3}, api.OK)
	do(t, c, event{Kind: cluster.EvReady, A: 3}, api.ErrNone)
	learnAll(t, c, 4, 1)
	do(t, c, event{Kind: cluster.EvReady, A: 3}, api.ErrNone)
	for len(c.Ready(3)) < 2 {
		do(t, c, event{Kind: cluster.EvTick, A: 3}, api.OK)
		takeAll(t, c)
	}
	list(t, "Ready", c.Ready(3), 0, 1)
	do(t, c, event{Kind: cluster.EvReady, A: 3}, api.OK)
	p, _ := c.Placement()
	want(t, "version", p.Version, 3)
	o, _ := placement.Find(p, 0, 3)
	want(t, "the first shard", o, api.Owner{Node: 3, State: api.Available, From: -1})
	o, _ = placement.Find(p, 1, 3)
	want(t, "the second one", o, api.Owner{Node: 3, State: api.Initializing, From: 0})
	_, ok := placement.Find(p, 0, 0)
	want(t, "the source", ok, false)
	do(t, c, event{Kind: cluster.EvReady, A: 3}, api.ErrStale)
	do(t, c, event{Kind: cluster.EvLearn, A: 3}, api.OK)
	list(t, "Ready", c.Ready(3), 1)
	do(t, c, event{Kind: cluster.EvReady, A: 3}, api.OK)
	do(t, c, event{Kind: cluster.EvLearn, A: 3}, api.OK)
	do(t, c, event{Kind: cluster.EvReady, A: 3}, api.ErrNone)
	p, _ = c.Placement()
	list(t, "nodes", p.Nodes, 1, 2, 3)
}

func TestWriteAndRead(t *testing.T) {
	c := placed(t, 3, 3, 2, 1)
	for _, e := range []struct {
		e   event
		err api.Errno
	}{
		{event{Kind: cluster.EvWrite, B: 1, ID: "a"}, api.ErrSpace}, {event{Kind: cluster.EvWrite}, api.ErrID}, {event{Kind: cluster.EvWrite, ID: "a", C: -1}, api.ErrArg},
		{event{Kind: cluster.EvRead, B: 1, ID: "a"}, api.ErrSpace}, {event{Kind: cluster.EvRead}, api.ErrID}, {event{Kind: cluster.EvRead, ID: "a", R: api.Range{From: -1}}, api.ErrArg},
	} {
		do(t, c, e.e, e.err)
	}
	want(t, "packets", len(c.Packets()), 0)
	want(t, "the first of session 1", op(t, c, event{Kind: cluster.EvWrite, A: 1, ID: "a", C: 50, V: 7}), 1)
	want(t, "the first of session 0", write(t, c, "a", 5, 1), 1)
	want(t, "the second of session 0", write(t, c, "a", 50, 8), 2)
	takeAll(t, c)
	r := op(t, c, event{Kind: cluster.EvRead, A: 1, ID: "a", R: api.Range{From: 5, To: 51}})
	takeAll(t, c)
	result(t, c, 1, r, session.Succeeded, api.OK, pt(5, 1, 256), pt(50, 8, 512))
	r = op(t, c, event{Kind: cluster.EvRead, A: 1, ID: "a", R: api.Range{From: 6, To: 50}})
	takeAll(t, c)
	result(t, c, 1, r, session.Succeeded, api.OK)
	result(t, c, 1, 99, 0, api.OK)
	result(t, c, 2, 1, 0, api.OK)
	result(t, c, -1, 1, 0, api.OK)
}

func TestRepair(t *testing.T) {
	c := placed(t, 4, 3, 1, 1)
	write(t, c, "a", 5, 1)
	do(t, c, event{Kind: cluster.EvDrop, A: 2}, api.OK) // node 2 does not get it
	takeAll(t, c)
	list(t, "Points", c.Points(2, 0, "a"))
	for _, x := range []struct {
		a, b, c int
		v       uint64
		err     api.Errno
	}{
		{2, 0, 0, 256, api.ErrNodes}, {2, 9, 0, math.MaxUint64, api.ErrNodes}, {2, 9, 0, 255, api.ErrSpace}, {2, 0, 1, 0, api.ErrShard}, {2, 0, 0, 2, api.ErrNodes},
		{2, 0, 0, 255, api.ErrNodes}, {3, 0, 0, 0, api.ErrShard}, {2, 0, 0, 1, api.OK},
	} {
		do(t, c, event{Kind: cluster.EvRepair, A: x.a, B: x.b, C: x.c, V: x.v}, x.err)
	}
	for range 5 {
		do(t, c, event{Kind: cluster.EvTick, A: 2}, api.OK)
		takeAll(t, c)
	}
	list(t, "Points", c.Points(2, 0, "a"), pt(5, 1, 256))
}

// P22.3

func TestQueriesOfWhoIsNotThere(t *testing.T) {
	c := placed(t, 3, 3, 1, 1)
	write(t, c, "a", 5, 1)
	takeAll(t, c)
	for _, i := range []int{-1, 3, 100, math.MinInt, math.MaxInt} {
		want(t, "Up", c.Up(i), false)
		want(t, "Clock", c.Clock(i), 0)
		want(t, "Points", len(c.Points(i, 0, "a")), 0)
		want(t, "Ready", len(c.Ready(i)), 0)
		result(t, c, i, 1, 0, api.OK)
	}
	want(t, "Points", len(c.Points(0, 1, "a")), 0)
	want(t, "Points", len(c.Points(0, -1, "a")), 0)
	want(t, "Points", len(c.Points(0, 0, "b")), 0)
	list(t, "Points", c.Points(0, 0, "a"), pt(5, 1, 256))
}
