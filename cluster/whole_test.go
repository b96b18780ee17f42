package cluster_test

import (
	"fmt"
	"math/rand"
	"testing"

	"thermograph/api"
	"thermograph/cluster"
	"thermograph/placement"
	"thermograph/session"
	"thermograph/wire"
)

// The ten examples of the whole

func TestTwoNodesAreDown(t *testing.T) {
	c := placed(t, 3, 3, 1, 1)
	write(t, c, "a", 5, 1)
	takeAll(t, c)
	do(t, c, event{Kind: cluster.EvCrash, A: 0}, api.OK)
	do(t, c, event{Kind: cluster.EvCrash, A: 2}, api.OK)
	r := read(t, c, "a")
	takeAll(t, c)
	result(t, c, 0, r, session.Pending, api.OK)
	do(t, c, event{Kind: cluster.EvStart, A: 2}, api.OK)
	do(t, c, event{Kind: cluster.EvResend, B: r}, api.OK)
	takeAll(t, c)
	result(t, c, 0, r, session.Succeeded, api.OK, pt(5, 1, 256))
}

func TestANodeIsAdded(t *testing.T) {
	c := placed(t, 4, 3, 1, 2)
	in0, in1 := named(0, 2), named(1, 2)
	for i, id := range []string{in0, in1} {
		write(t, c, id, 5+i, 1)
	}
	takeAll(t, c)
	do(t, c, event{Kind: cluster.EvAdmin, A: cluster.AdAdd, B: 3}, api.OK)
	learnAll(t, c, 4, 1)
	p, _ := c.Placement()
	o, _ := placement.Find(p, 0, 3)
	want(t, "the newcomer", o, api.Owner{Node: 3, State: api.Initializing, From: 0})
	// nodes 0 and 3 count as one
	w := write(t, c, in0, 20, 2)
	want(t, "requests", len(c.Packets()), 4)
	do(t, c, event{Kind: cluster.EvDrop, A: 2}, api.OK)
	do(t, c, event{Kind: cluster.EvDrop, A: 1}, api.OK)
	takeAll(t, c)
	result(t, c, 0, w, session.Pending, api.OK)
	do(t, c, event{Kind: cluster.EvResend, B: w}, api.OK)
	do(t, c, event{Kind: cluster.EvDrop, A: 1}, api.OK)
	takeAll(t, c)
	result(t, c, 0, w, session.Succeeded, api.OK)
	// it takes over
	bringIn(t, c, 3, 4, 1)
	want(t, "version", version(c), 3)
	p, _ = c.Placement()
	o, _ = placement.Find(p, 0, 3)
	want(t, "the newcomer", o, api.Owner{Node: 3, State: api.Available, From: -1})
	_, ok := placement.Find(p, 0, 0)
	want(t, "its source", ok, false)
	list(t, "Points", c.Points(3, 0, in0), pt(5, 1, 256), pt(20, 2, 768))
	list(t, "Points of another shard", c.Points(3, 0, in1))
}

func TestAnOldEpoch(t *testing.T) {
	c := placed(t, 4, 3, 2, 1)
	do(t, c, event{Kind: cluster.EvAdmin, A: cluster.AdReplace, B: 0, C: 3}, api.OK)
	learnAll(t, c, 4, 1) // the second session does not learn it
	for _, kind := range []int{cluster.EvWrite, cluster.EvRead} {
		n := op(t, c, event{Kind: kind, A: 1, ID: "a", C: 5, R: api.Range{To: end}})
		takeAll(t, c)
		result(t, c, 1, n, session.Failed, api.ErrEpoch)
	}
	for i := range 4 {
		list(t, "Points", c.Points(i, 0, "a"))
	}
}

func TestALostDiskIsReplaced(t *testing.T) {
	c := placed(t, 4, 3, 1, 1)
	write(t, c, "a", 5, 1)
	write(t, c, "a", 70, 2)
	takeAll(t, c)
	for i := range 3 {
		do(t, c, event{Kind: cluster.EvTick, A: i, B: 60}, api.OK) // some lies in volumes
	}
	do(t, c, event{Kind: cluster.EvLose, A: 0}, api.OK)
	do(t, c, event{Kind: cluster.EvAdmin, A: cluster.AdReplace, B: 0, C: 3}, api.OK)
	learnAll(t, c, 4, 1)
	asked := map[int]bool{}
	for len(c.Ready(3)) == 0 {
		do(t, c, event{Kind: cluster.EvTick, A: 3}, api.OK)
		for _, p := range c.Packets() {
			asked[p.To] = true
		}
		takeAll(t, c)
	}
	want(t, "asked", len(asked), 3)
	do(t, c, event{Kind: cluster.EvReady, A: 3}, api.OK)
	learnAll(t, c, 4, 1)
	list(t, "Points", c.Points(3, 0, "a"), pt(5, 1, 256), pt(70, 2, 512))
	do(t, c, event{Kind: cluster.EvCrash, A: 1}, api.OK)
	r := read(t, c, "a")
	takeAll(t, c)
	result(t, c, 0, r, session.Succeeded, api.OK, pt(5, 1, 256), pt(70, 2, 512))
}

func TestTwoSessionsWriteOneTime(t *testing.T) {
	for _, first := range []int{0, 1} {
		c := placed(t, 3, 3, 2, 1)
		op(t, c, event{Kind: cluster.EvWrite, A: first, ID: "a", C: 5, V: 1})
		op(t, c, event{Kind: cluster.EvWrite, A: 1 - first, ID: "a", C: 5, V: 2})
		takeAll(t, c)
		for s := range 2 {
			r := op(t, c, event{Kind: cluster.EvRead, A: s, ID: "a", R: api.Range{To: end}})
			takeAll(t, c)
			result(t, c, s, r, session.Succeeded, api.OK, pt(5, uint64(1+(1-first)), 257)) // the stamps are 256 and 257
		}
	}
}

// W1 to W5, by scripts of chance

// reading is a read that is not over, and what it has to return at least.
type reading struct {
	s, op int
	id    string
	least map[int]api.Point
}

// writing is a write that is not over.
type writing struct {
	s, op int
	id    string
	p     api.Point
}

// world is a cluster with what is known of it.
type world struct {
	t        *testing.T
	r        *rand.Rand
	c        *cluster.Cluster
	nodes    int
	sessions int
	counter  []uint64
	acked    map[string]map[int]api.Point // by name and time: the winner
	sent     map[string]map[api.Point]bool
	writes   []writing
	reads    []reading
	held     map[int]map[string]map[int]api.Point // what nodes acknowledged, by node
	seen     map[string]bool                      // answers that were looked at
	lost     int                                  // -1: none, or the node that was not replaced yet
	ends     [2]int                               // reads that succeeded, placements
	steps    int
}

func wins(a, b api.Point) bool { return a.S > b.S || a.S == b.S && a.V > b.V }

func note(m map[int]api.Point, p api.Point) {
	if q, ok := m[p.T]; !ok || wins(p, q) {
		m[p.T] = p
	}
}

func newWorld(t *testing.T, seed int64) *world {
	r := rand.New(rand.NewSource(seed))
	w := &world{t: t, r: r, nodes: 4 + r.Intn(5), sessions: 1 + r.Intn(3), lost: -1}
	c := api.Config{Spaces: []api.Space{{Retention: api.MaxTime, Block: 60, Future: api.MaxTime}}, Shards: 1 + r.Intn(4)}
	x, err := cluster.New(c, w.nodes, w.sessions, 1<<20)
	if err != api.OK {
		t.Fatal(err)
	}
	w.c = x
	w.counter = make([]uint64, w.sessions)
	w.acked, w.sent = map[string]map[int]api.Point{}, map[string]map[api.Point]bool{}
	w.held, w.seen = map[int]map[string]map[int]api.Point{}, map[string]bool{}
	for _, id := range []string{"a", "b", "c"} {
		w.acked[id], w.sent[id] = map[int]api.Point{}, map[api.Point]bool{}
	}
	x.Do(event{Kind: cluster.EvAdmin, B: 3 + r.Intn(2)})
	for i := range w.nodes {
		x.Do(event{Kind: cluster.EvLearn, A: i})
		w.held[i] = map[string]map[int]api.Point{"a": {}, "b": {}, "c": {}}
	}
	for i := range w.sessions {
		x.Do(event{Kind: cluster.EvLearn, A: session.Base + i})
	}
	return w
}

// step lets something happen.
func (w *world) step() {
	r := w.r
	node := r.Intn(w.nodes)
	id := string(rune('a' + r.Intn(3)))
	s := r.Intn(w.sessions)
	w.steps++
	switch k := r.Intn(160) - 60; {
	case k < 45:
		w.c.Do(event{Kind: cluster.EvTake, A: r.Intn(1 + len(w.c.Packets()))})
	case k < 47:
		w.c.Do(event{Kind: cluster.EvDrop, A: r.Intn(1 + len(w.c.Packets()))})
	case k < 49:
		w.c.Do(event{Kind: cluster.EvDouble, A: r.Intn(1 + len(w.c.Packets()))})
	case k < 63:
		w.c.Do(event{Kind: cluster.EvTick, A: node, B: r.Intn(20)})
	case k < 64:
		w.c.Do(event{Kind: cluster.EvCrash, A: node, B: r.Intn(5), C: r.Intn(20)})
	case k < 65:
		w.c.Do(event{Kind: cluster.EvCut, A: node, B: r.Intn(20), C: r.Intn(5)})
	case k < 69:
		w.c.Do(event{Kind: cluster.EvStart, A: node})
	case k < 70:
		if w.lost < 0 && r.Intn(4) == 0 {
			w.lost = node
			w.c.Do(event{Kind: cluster.EvLose, A: node})
		}
	case k < 73:
		w.change(node)
	case k < 79:
		w.c.Do(event{Kind: cluster.EvLearn, A: node})
	case k < 81:
		w.c.Do(event{Kind: cluster.EvLearn, A: session.Base + s})
	case k < 83:
		w.c.Do(event{Kind: cluster.EvReady, A: node})
	case k < 89:
		p := pt(r.Intn(300), uint64(r.Intn(5)), 0)
		n, err := w.c.Do(event{Kind: cluster.EvWrite, A: s, ID: id, C: p.T, V: p.V})
		if err == api.OK {
			w.counter[s]++
			p.S = 256*w.counter[s] + uint64(s)
			w.sent[id][p] = true
			w.writes = append(w.writes, writing{s, n, id, p})
		}
	case k < 94:
		n, err := w.c.Do(event{Kind: cluster.EvRead, A: s, ID: id, R: api.Range{To: end}})
		if err == api.OK {
			least := map[int]api.Point{}
			for x, p := range w.acked[id] {
				least[x] = p
			}
			w.reads = append(w.reads, reading{s, n, id, least})
		}
	case k < 98:
		if len(w.writes)+len(w.reads) > 0 {
			w.c.Do(event{Kind: cluster.EvResend, A: s, B: 1 + r.Intn(len(w.writes)+len(w.reads))})
		}
	default:
		p, _ := w.c.Placement()
		w.c.Do(event{Kind: cluster.EvRepair, A: node, C: r.Intn(len(p.Shards)), V: uint64(r.Intn(w.nodes))})
	}
	w.look()
}

// change asks for another placement; a lost node may only be taken out.
func (w *world) change(node int) {
	p, _ := w.c.Placement()
	in := p.Nodes[w.r.Intn(len(p.Nodes))]
	e := event{Kind: cluster.EvAdmin, A: 1 + w.r.Intn(3), B: in, C: node}
	if w.lost >= 0 {
		e.B = w.lost
	}
	if e.A == cluster.AdAdd {
		e.B = node
	}
	if (e.A == cluster.AdAdd || e.A == cluster.AdReplace) && !w.c.Up(node) {
		return
	}
	_, err := w.c.Do(e)
	if err == api.OK {
		w.ends[1]++
	}
}

// look holds what there is against what has to be.
func (w *world) look() {
	w.acknowledged()
	pendingWrites, pendingReads := w.writes[:0:0], w.reads[:0:0]
	for _, x := range w.writes {
		switch w.c.Result(x.s, x.op).State {
		case session.Succeeded:
			note(w.acked[x.id], x.p)
		case session.Pending:
			pendingWrites = append(pendingWrites, x)
		}
	}
	for _, x := range w.reads {
		res := w.c.Result(x.s, x.op)
		switch res.State {
		case session.Succeeded:
			w.ends[0]++
			got := map[int]api.Point{}
			for _, p := range res.Points {
				got[p.T] = p
				if !w.sent[x.id][p] {
					w.t.Errorf("a read returns a point that was not written: %v", p)
				}
			}
			for at, p := range x.least {
				if q, ok := got[at]; !ok || wins(p, q) {
					w.t.Errorf("a read returns %v, acknowledged was %v", q, p)
				}
			}
		case session.Pending:
			pendingReads = append(pendingReads, x)
		}
	}
	w.writes, w.reads = pendingWrites, pendingReads
	p, _ := w.c.Placement()
	if placement.Check(p) != api.OK {
		w.t.Errorf("a placement that is not valid: %v", p)
	}
	gone := true
	for shard := range p.Shards {
		_, ok := placement.Find(p, shard, w.lost)
		gone = gone && !ok
	}
	if w.lost >= 0 && gone {
		w.lost = -1 // replaced: another may be lost
	}
	if w.steps%8 > 0 {
		return
	}
	for n, names := range w.held {
		for id, points := range names {
			if !w.c.Up(n) {
				continue
			}
			got := map[int]api.Point{}
			for _, p := range w.c.Points(n, 0, id) {
				got[p.T] = p
			}
			for x, p := range points {
				if q, ok := got[x]; !ok || wins(p, q) {
					w.t.Errorf("node %d has %v, and had acknowledged %v", n, q, p)
				}
			}
		}
	}
}

// acknowledged notes what nodes have acknowledged by the answers in transit.
func (w *world) acknowledged() {
	l := w.c.Packets()
	for _, p := range l[max(0, len(l)-2):] { // an event adds one answer at most
		m, err := wire.Decode(p.Data)
		if err != api.OK || m.Kind != wire.Wrote || m.Err != api.OK {
			continue
		}
		key := fmt.Sprint(p.From, p.To, m.Seq)
		if w.seen[key] {
			continue
		}
		w.seen[key] = true
		for _, x := range w.writes {
			if x.s == p.To-session.Base && x.op == m.Seq {
				note(w.held[p.From][x.id], x.p)
			}
		}
	}
}

func TestScriptsOfChance(t *testing.T) {
	reads, changes := 0, 0
	for seed := range int64(60) {
		w := newWorld(t, seed)
		for i := range 1500 {
			w.step()
			if t.Failed() {
				t.Fatalf("seed %d, step %d", seed, i)
			}
		}
		reads += w.ends[0]
		changes += w.ends[1]
	}
	t.Log(reads, "reads,", changes, "placements")
	if reads < 500 || changes < 60 {
		t.Errorf("the scripts come to little: %d reads, %d placements", reads, changes)
	}
}

func TestTheSameScriptComesToTheSame(t *testing.T) {
	run := func() string {
		w := newWorld(t, 5)
		for range 400 {
			w.step()
		}
		p, _ := w.c.Placement()
		s := fmt.Sprint(p, w.c.Packets())
		for i := range w.nodes {
			for _, id := range []string{"a", "b", "c"} {
				s += fmt.Sprint(w.c.Points(i, 0, id), w.c.Ready(i), w.c.Up(i), w.c.Clock(i))
			}
		}
		return s
	}
	first := run()
	for range 5 {
		if run() != first {
			t.Fatal("another run comes to something else")
		}
	}
}
