package session_test

import (
	"fmt"
	"math"
	"math/rand"
	"reflect"
	"slices"
	"strings"
	"testing"

	"thermograph/api"
	"thermograph/digest"
	"thermograph/placement"
	"thermograph/session"
	"thermograph/wire"
)

const end = api.MaxTime + 1

func want[T comparable](t *testing.T, what string, got, want T) {
	t.Helper()
	if got != want {
		t.Errorf("%s: got %v, want %v", what, got, want)
	}
}

func pt(t int, v, s uint64) api.Point { return api.Point{T: t, V: v, S: s} }

func rg(from, to int) api.Range { return api.Range{From: from, To: to} }

func config(shards int) api.Config {
	return api.Config{Spaces: []api.Space{{Retention: 300, Block: 60, Future: 10}, {Block: 1}}, Shards: shards}
}

func opened(t *testing.T, c api.Config, me int, first uint64) *session.Session {
	t.Helper()
	s, err := session.New(c, me, first)
	if err != api.OK {
		t.Fatal(err)
	}
	return s
}

func start(t *testing.T, nodes, shards int) api.Placement {
	t.Helper()
	p, err := placement.Init([]int{0, 1, 2, 3, 4, 5, 6, 7}[:nodes], shards)
	if err != api.OK {
		t.Fatal(err)
	}
	return p
}

// comes is a placement of version 2 in which 3 comes from 0 in the only shard.
func comes(t *testing.T) api.Placement {
	t.Helper()
	p, err := placement.Replace(start(t, 3, 1), 0, 3)
	if err != api.OK {
		t.Fatal(err)
	}
	return p
}

// placed is session 0 with a placement of one shard.
func placed(t *testing.T, p api.Placement) *session.Session {
	t.Helper()
	s := opened(t, config(1), 0, 1)
	want(t, "Learn", s.Learn(p), true)
	return s
}

// sent holds packets against the nodes that they go to and the message that they have.
func sent(t *testing.T, l []api.Packet, from int, m wire.Message, nodes ...int) {
	t.Helper()
	var to []int
	for _, p := range l {
		to = append(to, p.To)
		got, err := wire.Decode(p.Data)
		if err != api.OK || !reflect.DeepEqual(got, m) || p.From != from {
			t.Errorf("got %+v from %d, %v, want %+v", got, p.From, err, m)
		}
	}
	if !slices.Equal(to, nodes) {
		t.Errorf("requests to %v, want %v", to, nodes)
	}
}

func write(t *testing.T, s *session.Session) int {
	t.Helper()
	op, _, err := s.Write(0, "a", 5, 9)
	if err != api.OK {
		t.Fatal(err)
	}
	return op
}

func read(t *testing.T, s *session.Session, r api.Range) int {
	t.Helper()
	op, _, err := s.Read(0, "a", r)
	if err != api.OK {
		t.Fatal(err)
	}
	return op
}

func hear(t *testing.T, s *session.Session, from int, m wire.Message) int {
	t.Helper()
	b, err := wire.Encode(m)
	if err != api.OK {
		t.Fatal(err)
	}
	return s.Hear(from, b)
}

func wrote(op int, err api.Errno) wire.Message {
	return wire.Message{Kind: wire.Wrote, Seq: op, Epoch: 1, Err: err}
}

func told(op int, err api.Errno, l ...api.Point) wire.Message {
	return wire.Message{Kind: wire.Told, Seq: op, Epoch: 1, Err: err, Points: l}
}

func result(t *testing.T, s *session.Session, op, state int, err api.Errno, l ...api.Point) {
	t.Helper()
	r := s.Result(op)
	if r.State != state || r.Err != err || !slices.Equal(r.Points, l) {
		t.Errorf("Result(%d): got %+v, want %d, %v, %v", op, r, state, err, l)
	}
}

// P21.1

func TestNew(t *testing.T) {
	one := []api.Space{{}}
	for _, c := range []struct {
		spaces     []api.Space
		shards, me int
		first      uint64
		err        api.Errno
	}{
		{one, 1, 0, 1, api.OK},
		{[]api.Space{{}, {Block: -5}, {}, {}}, 8, 255, math.MaxUint64, api.OK},
		{nil, 1, 0, 1, api.ErrArg}, {make([]api.Space, 5), 1, 0, 1, api.ErrArg},
		{one, 0, 0, 1, api.ErrArg}, {one, 9, 0, 1, api.ErrArg}, {one, -1, 0, 1, api.ErrArg},
		{one, 1, -1, 1, api.ErrArg}, {one, 1, 256, 1, api.ErrArg}, {one, 1, math.MinInt, 1, api.ErrArg},
		{one, 1, 0, 0, api.ErrArg},
	} {
		s, err := session.New(api.Config{Spaces: c.spaces, Shards: c.shards}, c.me, c.first)
		want(t, fmt.Sprint(c), err, c.err)
		want(t, "session", s != nil, c.err == api.OK)
		if s != nil {
			want(t, "Epoch", s.Epoch(), 0)
		}
	}
	want(t, "constants", fmt.Sprint(session.Pending, session.Succeeded, session.Failed, session.Base), "1 2 3 100")
}

func TestLearn(t *testing.T) {
	s := opened(t, config(1), 0, 1)
	p := start(t, 3, 1)
	want(t, "no placement", s.Learn(api.Placement{Version: 9}), false)
	p.Version = 4
	want(t, "Learn", s.Learn(p), true)
	want(t, "Epoch", s.Epoch(), 4)
	for v := -1; v <= 4; v++ {
		p.Version = v
		want(t, fmt.Sprint("version ", v), s.Learn(p), false)
	}
	want(t, "Epoch", s.Epoch(), 4)
	p.Version = api.MaxTime
	want(t, "Learn", s.Learn(p), true)
	want(t, "Epoch", s.Epoch(), api.MaxTime)
}

// P21.2 and P21.3

func TestWriteRequests(t *testing.T) {
	s := opened(t, config(1), 7, 5)
	s.Learn(start(t, 3, 1))
	for i := range 3 {
		op, l, err := s.Write(1, "ab", 50+i, 9)
		want(t, "Write", err, api.OK)
		want(t, "operation", op, i+1)
		sent(t, l, 107, wire.Message{Kind: wire.Write, Seq: op, Epoch: 1, Space: 1, ID: "ab", P: pt(50+i, 9, uint64(256*(5+i)+7))}, 0, 1, 2)
		result(t, s, op, session.Pending, api.OK)
	}
	op, l, err := s.Read(1, "ab", rg(3, 70))
	want(t, "Read", err, api.OK)
	want(t, "operation", op, 4)
	sent(t, l, 107, wire.Message{Kind: wire.Read, Seq: 4, Epoch: 1, Space: 1, ID: "ab", R: rg(3, 70)}, 0, 1, 2)
	result(t, s, op, session.Pending, api.OK)
	_, l, _ = s.Write(0, "a", 1, 1)
	m, _ := wire.Decode(l[0].Data)
	want(t, "a read takes no stamp", m.P.S, 256*8+7)
}

func TestTargets(t *testing.T) {
	s := placed(t, comes(t))
	_, l, _ := s.Write(0, "a", 5, 9)
	sent(t, l, 100, wire.Message{Kind: wire.Write, Seq: 1, Epoch: 2, ID: "a", P: pt(5, 9, 256)}, 0, 1, 2, 3)
	// each shard has its own owners
	s = opened(t, config(8), 0, 1)
	p := start(t, 8, 8)
	s.Learn(p)
	for i := range 40 {
		id := fmt.Sprint("n", i)
		var nodes []int
		for _, o := range p.Shards[digest.Shard(id, 8)] {
			nodes = append(nodes, o.Node)
		}
		op, l, _ := s.Read(0, id, rg(0, 9))
		sent(t, l, 100, wire.Message{Kind: wire.Read, Seq: op, Epoch: 1, ID: id, R: rg(0, 9)}, nodes...)
	}
	// two that come, from higher and lower nodes
	const i, a, lv = api.Initializing, api.Available, api.Leaving
	p = api.Placement{Version: 3, Nodes: []int{0, 3, 4}, Shards: [][]api.Owner{{
		{Node: 0, State: i, From: 5}, {Node: 2, State: lv, From: -1}, {Node: 3, State: a, From: -1}, {Node: 4, State: i, From: 2}, {Node: 5, State: lv, From: -1},
	}}}
	s = placed(t, p)
	_, l, _ = s.Read(0, "a", rg(0, 9))
	sent(t, l, 100, wire.Message{Kind: wire.Read, Seq: 1, Epoch: 3, ID: "a", R: rg(0, 9)}, 0, 2, 3, 4, 5)
}

func TestErrors(t *testing.T) {
	long := strings.Repeat("x", api.MaxID)
	for _, c := range []struct {
		space int
		id    string
		t     int
		err   api.Errno
	}{
		{-1, "", -1, api.ErrSpace}, {2, "a", 5, api.ErrSpace}, {math.MaxInt, "a", 5, api.ErrSpace},
		{0, "", -1, api.ErrID}, {1, long + "x", 5, api.ErrID},
		{0, "a", -1, api.ErrArg}, {0, "a", api.MaxTime + 1, api.ErrArg}, {0, "a", math.MinInt, api.ErrArg},
		{0, "a", 0, api.ErrNodes}, {1, long, api.MaxTime, api.ErrNodes},
	} {
		s := opened(t, config(2), 0, math.MaxUint64) // no stamp is left, either
		s.Learn(start(t, 3, 1))                      // of another number of shards
		op, l, err := s.Write(c.space, c.id, c.t, 1)
		want(t, fmt.Sprint("Write ", c), err, c.err)
		want(t, "results", op+len(l), 0)
		if c.err == api.ErrNodes {
			s.Learn(comes(t)) // still
			_, _, err = s.Write(c.space, c.id, c.t, 1)
			want(t, fmt.Sprint("Write ", c), err, api.ErrNodes)
		}
		s = opened(t, config(2), 0, 1) // knows none
		for _, r := range []api.Range{rg(c.t, 9), rg(9, c.t)} {
			e := c.err
			if c.t == api.MaxTime+1 { // a range may end there
				e = api.ErrNodes
			}
			op, l, err = s.Read(c.space, c.id, r)
			want(t, fmt.Sprint("Read ", c), err, e)
			want(t, "results", op+len(l), 0)
		}
	}
	s := placed(t, start(t, 3, 1))
	for _, r := range []api.Range{rg(-1, 5), rg(5, -1), rg(end+1, 5), rg(5, end+1), rg(math.MinInt, math.MaxInt)} {
		_, _, err := s.Read(0, "a", r)
		want(t, fmt.Sprint("Read ", r), err, api.ErrArg)
	}
	for _, r := range []api.Range{rg(0, 0), rg(end, end), rg(end, 0), rg(0, end)} {
		_, _, err := s.Read(0, "a", r)
		want(t, fmt.Sprint("Read ", r), err, api.OK)
	}
	op := write(t, s)
	want(t, "failures take no number", op, 5)
	p := start(t, 3, 2)
	p.Version = 2
	s.Learn(p)
	_, _, err := s.Write(0, "a", 5, 1)
	want(t, "another number of shards", err, api.ErrNodes)
	_, _, err = s.Read(0, "a", rg(0, 9))
	want(t, "another number of shards", err, api.ErrNodes)
}

func TestStamps(t *testing.T) {
	s := opened(t, config(1), 255, 1<<56-2)
	s.Learn(start(t, 3, 1))
	for _, stamp := range []uint64{math.MaxUint64 - 256, math.MaxUint64} {
		_, _, err := s.Write(0, "a", -1, 9) // takes none
		want(t, "Write", err, api.ErrArg)
		op, l, err := s.Write(0, "a", 5, 9)
		want(t, "Write", err, api.OK)
		sent(t, l, 355, wire.Message{Kind: wire.Write, Seq: op, Epoch: 1, ID: "a", P: pt(5, 9, stamp)}, 0, 1, 2)
	}
	for range 3 {
		op, l, err := s.Write(0, "a", 5, 9)
		want(t, "no stamp is left", err, api.ErrStamp)
		want(t, "results", op+len(l), 0)
	}
	op, _, err := s.Read(0, "a", rg(0, 9))
	want(t, "a read needs none", err, api.OK)
	want(t, "operation", op, 3)
}

func TestThePlacementOfTheStartCounts(t *testing.T) {
	s := placed(t, start(t, 3, 1))
	op := write(t, s)
	s.Learn(comes(t))
	want(t, "a newcomer", hear(t, s, 3, wrote(op, api.OK)), 0)
	want(t, "Hear", hear(t, s, 0, wrote(op, api.OK)), op)
	sent(t, s.Resend(op), 100, wire.Message{Kind: wire.Write, Seq: 1, Epoch: 1, ID: "a", P: pt(5, 9, 256)}, 1, 2)
	want(t, "Hear", hear(t, s, 1, wrote(op, api.OK)), op)
	result(t, s, op, session.Succeeded, api.OK)
}

// P21.4

func TestExample(t *testing.T) {
	s := opened(t, config(1), 0, 1)
	_, _, err := s.Write(0, "a", 5, 1)
	want(t, "Write", err, api.ErrNodes)
	s.Learn(start(t, 3, 1))
	op, l, err := s.Write(0, "a", 5, 1)
	want(t, "Write", fmt.Sprint(op, len(l), err), "1 3 0")
	want(t, "Hear", hear(t, s, 0, wrote(1, api.OK)), 1)
	want(t, "again", hear(t, s, 0, wrote(1, api.OK)), 0)
	result(t, s, 1, session.Pending, api.OK)
	want(t, "Hear", hear(t, s, 2, wrote(1, api.OK)), 1)
	result(t, s, 1, session.Succeeded, api.OK)
}

func TestWhatIsNotHeard(t *testing.T) {
	s := placed(t, start(t, 4, 1)) // 0, 1, 2 own it
	w := write(t, s)
	r := read(t, s, rg(0, 9))
	for _, b := range [][]byte{nil, {}, {2, 1, 1}, {9}, make([]byte, api.MaxFrame+1)} {
		want(t, "no message", s.Hear(0, b), 0)
	}
	for kind := 1; kind <= 8; kind++ {
		if kind != wire.Wrote {
			want(t, fmt.Sprint("kind ", kind), hear(t, s, 0, wire.Message{Kind: kind, Seq: w, Epoch: 1}), 0)
		}
		if kind != wire.Told {
			want(t, fmt.Sprint("kind ", kind), hear(t, s, 0, wire.Message{Kind: kind, Seq: r, Epoch: 1}), 0)
		}
	}
	for _, seq := range []int{0, 3, 99, api.MaxTime} {
		want(t, fmt.Sprint("Seq ", seq), hear(t, s, 0, wrote(seq, api.OK)), 0)
		want(t, fmt.Sprint("Seq ", seq), hear(t, s, 0, told(seq, api.OK)), 0)
	}
	for _, from := range []int{3, -1, 100, math.MinInt} {
		want(t, fmt.Sprint("from ", from), hear(t, s, from, wrote(w, api.OK)), 0)
		want(t, fmt.Sprint("from ", from), hear(t, s, from, told(r, api.ErrBusy)), 0)
	}
	result(t, s, w, session.Pending, api.OK)
	result(t, s, r, session.Pending, api.OK)
	m := wrote(w, api.OK)
	m.Epoch = 77
	want(t, "any epoch", hear(t, s, 0, m), w)
	want(t, "Hear", hear(t, s, 1, wrote(w, api.OK)), w)
	want(t, "after the end", hear(t, s, 2, wrote(w, api.OK)), 0)
	result(t, s, w, session.Succeeded, api.OK)
	for _, op := range []int{0, -1, 3, math.MinInt, math.MaxInt} {
		result(t, s, op, 0, api.OK)
		want(t, "Resend", len(s.Resend(op)), 0)
	}
}

func TestFailing(t *testing.T) {
	s := placed(t, start(t, 3, 1))
	op := write(t, s)
	want(t, "Hear", hear(t, s, 1, wrote(op, api.ErrFull)), op)
	result(t, s, op, session.Pending, api.OK)
	want(t, "the same one again", hear(t, s, 1, wrote(op, api.OK)), 0)
	want(t, "Hear", hear(t, s, 0, wrote(op, api.OK)), op)
	result(t, s, op, session.Pending, api.OK)
	want(t, "Hear", hear(t, s, 2, wrote(op, api.ErrEpoch)), op)
	result(t, s, op, session.Failed, api.ErrFull)
	want(t, "after the end", hear(t, s, 2, wrote(op, api.OK)), 0)
	result(t, s, op, session.Failed, api.ErrFull)

	op = write(t, s)
	hear(t, s, 2, wrote(op, api.ErrEpoch))
	hear(t, s, 1, wrote(op, api.ErrFull))
	result(t, s, op, session.Failed, api.ErrEpoch)
	op = write(t, s)
	hear(t, s, 2, wrote(op, api.ErrEpoch))
	hear(t, s, 1, wrote(op, api.OK))
	hear(t, s, 0, wrote(op, api.OK))
	result(t, s, op, session.Succeeded, api.OK)
	op = read(t, s, rg(0, 9))
	hear(t, s, 2, told(op, api.OK, pt(5, 1, 1)))
	hear(t, s, 1, told(op, api.ErrMany))
	hear(t, s, 0, told(op, 255))
	result(t, s, op, session.Failed, api.ErrMany)
}

func TestReading(t *testing.T) {
	s := placed(t, start(t, 3, 1))
	op := read(t, s, rg(2, 9))
	hear(t, s, 2, told(op, api.OK, pt(9, 1, 1), pt(5, 1, 1), pt(2, 1, 1), pt(1, 1, 1), pt(5, 2, 1)))
	result(t, s, op, session.Pending, api.OK)
	hear(t, s, 0, told(op, api.OK, pt(5, 0, 2), pt(8, 1, 1), pt(2, 1, 0)))
	all := []api.Point{pt(2, 1, 1), pt(5, 0, 2), pt(8, 1, 1)}
	result(t, s, op, session.Succeeded, api.OK, all...)
	want(t, "after the end", hear(t, s, 1, told(op, api.OK, pt(7, 7, 7))), 0)
	l := s.Result(op).Points
	_ = append(l[:1], pt(77, 7, 7))
	l[0].V = 99
	result(t, s, op, session.Succeeded, api.OK, all...)
	op = read(t, s, rg(9, 2))
	hear(t, s, 1, told(op, api.OK, pt(5, 1, 1)))
	hear(t, s, 0, told(op, api.OK))
	result(t, s, op, session.Succeeded, api.OK)
	op = read(t, s, rg(0, 9))
	hear(t, s, 1, told(op, api.ErrBusy, pt(5, 9, 9))) // an error beside points
	hear(t, s, 0, told(op, api.OK, pt(5, 1, 1)))
	hear(t, s, 2, told(op, api.OK, pt(6, 1, 1)))
	result(t, s, op, session.Succeeded, api.OK, pt(5, 1, 1), pt(6, 1, 1))
}

func TestSlotsOfTwoMembers(t *testing.T) {
	for _, c := range []struct {
		errs  string // by hearing: the node, and + or -
		state int
	}{
		{"0+3+1+", session.Succeeded}, {"0+1+", session.Pending}, {"0+1+3+", session.Succeeded}, {"0+3+", session.Pending}, {"3+1+", session.Pending},
		{"1+2+", session.Succeeded}, {"0-1+2+", session.Succeeded}, {"0-3-", session.Pending}, {"0-1-", session.Failed}, {"3-2-", session.Failed},
		{"0-3-1+", session.Pending}, {"0-3+1+", session.Pending}, {"0+3-1+", session.Pending}, {"0+3-1+2+", session.Succeeded}, {"0+3-1+2-", session.Failed},
		{"1-2-", session.Failed}, {"1-0+3+", session.Pending}, {"1-0+3+2+", session.Succeeded}, {"1-3-", session.Failed}, {"0-3-1+2-", session.Failed},
	} {
		for _, reads := range []bool{false, true} {
			s := placed(t, comes(t))
			op := 0
			if reads {
				op = read(t, s, rg(0, 9))
			} else {
				op = write(t, s)
			}
			for i := 0; i < len(c.errs); i += 2 {
				m := wrote(op, api.OK)
				if reads {
					m.Kind = wire.Told
				}
				if c.errs[i+1] == '-' {
					m.Err = api.ErrBusy
				}
				want(t, c.errs, hear(t, s, int(c.errs[i]-'0'), m), op)
			}
			err := api.OK
			if c.state == session.Failed {
				err = api.ErrBusy
			}
			t.Log(c.errs)
			result(t, s, op, c.state, err)
		}
	}
}

func TestOnlySlotsThatHoldGivePoints(t *testing.T) {
	s := placed(t, comes(t))
	op := read(t, s, rg(0, 9))
	hear(t, s, 0, told(op, api.OK, pt(5, 9, 9), pt(6, 1, 1))) // its slot waits for 3
	hear(t, s, 1, told(op, api.OK, pt(5, 1, 1)))
	hear(t, s, 2, told(op, api.OK, pt(5, 2, 2)))
	result(t, s, op, session.Succeeded, api.OK, pt(5, 2, 2))
	op = read(t, s, rg(0, 9))
	hear(t, s, 0, told(op, api.OK, pt(5, 3, 3)))
	hear(t, s, 1, told(op, api.OK, pt(5, 1, 1)))
	hear(t, s, 3, told(op, api.OK, pt(6, 2, 2)))
	result(t, s, op, session.Succeeded, api.OK, pt(5, 3, 3), pt(6, 2, 2))
}

// P21.5

func TestResend(t *testing.T) {
	s := placed(t, comes(t))
	w, r := write(t, s), read(t, s, rg(2, 9))
	wm := wire.Message{Kind: wire.Write, Seq: w, Epoch: 2, ID: "a", P: pt(5, 9, 256)}
	rm := wire.Message{Kind: wire.Read, Seq: r, Epoch: 2, ID: "a", R: rg(2, 9)}
	sent(t, s.Resend(w), 100, wm, 0, 1, 2, 3)
	hear(t, s, 1, wrote(w, api.OK))
	hear(t, s, 3, wrote(w, api.ErrBusy))
	sent(t, s.Resend(w), 100, wm, 0, 2)
	s.Resend(w)[0].Data[0] = 99
	sent(t, s.Resend(w), 100, wm, 0, 2)
	sent(t, s.Resend(r), 100, rm, 0, 1, 2, 3)
	hear(t, s, 2, wrote(w, api.OK))
	want(t, "after the end", len(s.Resend(w)), 0)
	hear(t, s, 0, told(r, api.ErrBusy))
	hear(t, s, 1, told(r, api.ErrBusy))
	want(t, "after the end", len(s.Resend(r)), 0)
	result(t, s, r, session.Failed, api.ErrBusy)
}

func TestMemoryIsApart(t *testing.T) {
	c, p := config(1), start(t, 3, 1)
	s := opened(t, c, 0, 1)
	s.Learn(p)
	c.Spaces[0], c.Spaces = api.Space{}, nil
	p.Shards[0][0].Node, p.Shards[0] = 7, nil
	_, l, err := s.Write(1, "a", 5, 9)
	want(t, "Write", err, api.OK)
	clear(l[0].Data)
	sent(t, l[1:], 100, wire.Message{Kind: wire.Write, Seq: 1, Epoch: 1, Space: 1, ID: "a", P: pt(5, 9, 256)}, 1, 2)
}

// P21.6

func TestOperationsComeToAnEndOnce(t *testing.T) {
	for seed := range int64(300) {
		r := rand.New(rand.NewSource(seed))
		once, twice := placed(t, comes(t)), placed(t, comes(t))
		var ended [6]session.Result
		for range 6 {
			for _, s := range []*session.Session{once, twice} {
				if seed%2 == 0 {
					write(t, s)
				} else {
					read(t, s, rg(0, 9))
				}
			}
		}
		for range 60 {
			op, from := 1+r.Intn(6), r.Intn(5)
			m := told(op, api.OK, pt(r.Intn(9), 1, uint64(r.Intn(5))))
			if seed%2 == 0 {
				m = wrote(op, api.OK)
			}
			if r.Intn(3) == 0 {
				m.Err = api.Errno(1 + r.Intn(9))
				m.Points = nil
			}
			n := hear(t, once, from, m)
			want(t, "Hear", hear(t, twice, from, m), n)
			want(t, "Hear again", hear(t, twice, from, m), 0)
			for i := range ended {
				a, b := once.Result(i+1), twice.Result(i+1)
				want(t, "results", reflect.DeepEqual(a, b), true)
				if ended[i].State == session.Succeeded || ended[i].State == session.Failed {
					want(t, "a completed operation", reflect.DeepEqual(a, ended[i]), true)
				}
				ended[i] = a
			}
			if t.Failed() {
				t.Fatal("seed", seed)
			}
		}
	}
}

func TestStampsAreUnique(t *testing.T) {
	seen := map[uint64]bool{}
	for me := range 4 {
		s := opened(t, config(1), me, 1)
		s.Learn(start(t, 3, 1))
		for range 50 {
			_, l, _ := s.Write(0, "a", 5, 9)
			m, _ := wire.Decode(l[0].Data)
			want(t, "seen before", seen[m.P.S], false)
			seen[m.P.S] = true
		}
	}
}
