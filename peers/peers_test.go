package peers_test

import (
	"fmt"
	"math"
	"math/rand"
	"reflect"
	"slices"
	"testing"

	"thermograph/api"
	"thermograph/peers"
	"thermograph/wire"
)

func want[T comparable](t *testing.T, what string, got, want T) {
	t.Helper()
	if got != want {
		t.Errorf("%s: got %v, want %v", what, got, want)
	}
}

func pt(t int, v, s uint64) api.Point { return api.Point{T: t, V: v, S: s} }

func meta(block int, id string) api.Meta { return api.Meta{ID: id, Block: block} }

func rg(from, to int) api.Range { return api.Range{From: from, To: to} }

// fetch is one of shard 3 in namespace 2, with blocks of 60, at epoch 7, from Seq 5 on.
func fetch() *peers.Fetch { return peers.New(2, 3, 60, rg(0, 600), 7, 5) }

func paged(seq int, more bool, l ...api.Meta) wire.Message {
	return wire.Message{Kind: wire.Paged, Seq: seq, Epoch: 7, More: more, Metas: l}
}

func stream(seq int, l ...api.Point) wire.Message {
	return wire.Message{Kind: wire.Stream, Seq: seq, Epoch: 7, Points: l}
}

func metasRequest(seq, block int, id string) wire.Message {
	return wire.Message{Kind: wire.Metas, Seq: seq, Epoch: 7, Space: 2, Shard: 3, R: rg(0, 600), Block: block, ID: id}
}

func blockRequest(seq, block int, id string) wire.Message {
	return wire.Message{Kind: wire.Block, Seq: seq, Epoch: 7, Space: 2, Shard: 3, Block: block, ID: id}
}

// asks holds the state against the request that should be the current one.
func asks(t *testing.T, f *peers.Fetch, m wire.Message) {
	t.Helper()
	for range 2 {
		got, ok := f.Next()
		if !ok || !reflect.DeepEqual(got, m) {
			t.Errorf("Next: got %+v, %v, want %+v", got, ok, m)
		}
	}
	want(t, "Done", f.Done(), false)
	want(t, "Err", f.Err(), api.OK)
}

func over(t *testing.T, f *peers.Fetch, done bool, err api.Errno) {
	t.Helper()
	got, ok := f.Next()
	if ok || !reflect.DeepEqual(got, wire.Message{}) {
		t.Errorf("Next: got %v, %v", got, ok)
	}
	want(t, "Done", f.Done(), done)
	want(t, "Err", f.Err(), err)
	for seq := range 12 {
		for _, m := range []wire.Message{paged(seq, false), stream(seq), paged(seq, true, meta(600, "z"))} {
			want(t, "Hear", f.Hear(m), false)
		}
	}
}

func series(t *testing.T, f *peers.Fetch, want ...api.Series) {
	t.Helper()
	got := f.Series()
	if !slices.EqualFunc(got, want, func(a, b api.Series) bool { return a.ID == b.ID && slices.Equal(a.Points, b.Points) }) {
		t.Errorf("Series: got %v, want %v", got, want)
	}
}

func of(id string, l ...api.Point) api.Series { return api.Series{ID: id, Points: l} }

// P17.1 and P17.2

func TestNew(t *testing.T) {
	f := fetch()
	asks(t, f, metasRequest(5, 0, ""))
	series(t, f)
	m, ok := peers.New(0, 1, 60, rg(0, 60), 7, 5).Next()
	want(t, "the example", ok, true)
	want(t, "the example", reflect.DeepEqual(m, wire.Message{Kind: wire.Metas, Seq: 5, Epoch: 7, Shard: 1, R: rg(0, 60)}), true)
	m, _ = peers.New(-1, math.MaxInt, math.MinInt, rg(9, -9), -5, math.MinInt).Next()
	want(t, "any numbers", reflect.DeepEqual(m, wire.Message{Kind: wire.Metas, Seq: math.MinInt, Epoch: -5, Space: -1, Shard: math.MaxInt, R: rg(9, -9)}), true)
}

func TestRequestsInOrder(t *testing.T) {
	f := fetch()
	want(t, "Hear", f.Hear(paged(5, true, meta(0, "a"), meta(0, "b"))), true)
	asks(t, f, metasRequest(6, 0, "b"))
	want(t, "Hear", f.Hear(paged(6, true, meta(60, ""))), true)
	asks(t, f, metasRequest(7, 60, ""))
	want(t, "Hear", f.Hear(paged(7, false)), true)
	asks(t, f, blockRequest(8, 0, "a"))
	want(t, "Hear", f.Hear(stream(8)), true)
	asks(t, f, blockRequest(9, 0, "b"))
	want(t, "Hear", f.Hear(stream(9, pt(59, 1, 1))), true)
	asks(t, f, blockRequest(10, 60, ""))
	want(t, "Hear", f.Hear(stream(10, pt(60, 1, 1), pt(119, 1, 1))), true)
	over(t, f, true, api.OK)
	series(t, f, of("", pt(60, 1, 1), pt(119, 1, 1)), of("b", pt(59, 1, 1)))
}

func TestNothingToFetch(t *testing.T) {
	f := fetch()
	want(t, "Hear", f.Hear(paged(5, false)), true)
	over(t, f, true, api.OK)
	series(t, f)
}

// P17.3

func TestMessagesThatAreNoAnswers(t *testing.T) {
	f := fetch()
	kinds := func(answer, seq int) {
		t.Helper()
		for kind := -1; kind < 12; kind++ {
			if kind != answer {
				want(t, fmt.Sprint("kind ", kind), f.Hear(wire.Message{Kind: kind, Seq: seq, Epoch: 7, Err: api.ErrBusy}), false)
			}
		}
		for _, s := range []int{0, seq - 1, seq + 1, -seq, math.MinInt} {
			want(t, fmt.Sprint("Seq ", s), f.Hear(wire.Message{Kind: answer, Seq: s, Epoch: 7, Err: api.ErrBusy}), false)
		}
	}
	kinds(wire.Paged, 5)
	asks(t, f, metasRequest(5, 0, ""))
	f.Hear(paged(5, true, meta(0, "a")))
	kinds(wire.Paged, 6)
	asks(t, f, metasRequest(6, 0, "a"))
	f.Hear(paged(6, false, meta(0, "b")))
	kinds(wire.Stream, 7)
	asks(t, f, blockRequest(7, 0, "a"))
	f.Hear(stream(7, pt(1, 1, 1)))
	kinds(wire.Stream, 8)
	asks(t, f, blockRequest(8, 0, "b"))
	f.Hear(stream(8, pt(1, 1, 1)))
	over(t, f, true, api.OK)
}

func TestOtherFieldsOfAnAnswerDoNotMatter(t *testing.T) {
	f := fetch()
	m := paged(5, false, meta(0, "a"))
	m.Epoch, m.Space, m.Shard, m.Block, m.ID, m.R = 99, 8, 9, 10, "z", rg(1, 2)
	want(t, "Hear", f.Hear(m), true)
	asks(t, f, blockRequest(6, 0, "a"))
	m = stream(6, pt(1, 1, 1))
	m.Epoch, m.Block, m.ID, m.More = 99, 300, "z", true
	want(t, "Hear", f.Hear(m), true)
	over(t, f, true, api.OK)
	series(t, f, of("a", pt(1, 1, 1)))
}

func TestErrorsOfAnAnswer(t *testing.T) {
	for _, e := range []api.Errno{api.ErrEpoch, api.ErrArg, 255, -1} {
		f := fetch()
		m := paged(5, true)
		m.Err = e
		want(t, "Hear", f.Hear(m), true)
		over(t, f, false, e)
		f = fetch()
		f.Hear(paged(5, false, meta(0, "a"), meta(0, "b")))
		f.Hear(stream(6, pt(1, 1, 1)))
		m = stream(7, pt(999, 1, 1))
		m.Err = e
		want(t, "Hear", f.Hear(m), true)
		over(t, f, false, e)
		series(t, f, of("a", pt(1, 1, 1)))
	}
}

func TestPagesThatAreWrong(t *testing.T) {
	for what, c := range map[string]struct {
		l    []api.Meta
		more bool
		ok   bool
	}{
		"more, and none":     {nil, true, false},
		"none":               {nil, false, true},
		"the cursor":         {[]api.Meta{meta(60, "b")}, false, false},
		"before the cursor":  {[]api.Meta{meta(60, "a")}, false, false},
		"an earlier block":   {[]api.Meta{meta(0, "z")}, false, false},
		"a negative block":   {[]api.Meta{meta(-60, "z")}, false, false},
		"after the cursor":   {[]api.Meta{meta(60, "b\x00")}, false, true},
		"a later block":      {[]api.Meta{meta(61, "")}, true, true},
		"the same twice":     {[]api.Meta{meta(60, "c"), meta(60, "c")}, false, false},
		"not in order":       {[]api.Meta{meta(60, "d"), meta(60, "c")}, true, false},
		"blocks not ordered": {[]api.Meta{meta(180, "c"), meta(120, "d")}, false, false},
		"in order":           {[]api.Meta{meta(60, "c"), meta(120, "a")}, false, true},
		"the second, wrong":  {[]api.Meta{meta(60, "c"), meta(60, "b")}, false, false},
	} {
		f := fetch()
		f.Hear(paged(5, true, meta(60, "b")))
		want(t, what, f.Hear(paged(6, c.more, c.l...)), true)
		if !c.ok {
			over(t, f, false, api.ErrForm)
			continue
		}
		want(t, what, f.Err(), api.OK)
		want(t, what, f.Done(), false)
	}
	f := fetch()
	want(t, "Hear", f.Hear(paged(5, false, meta(0, ""))), true) // the first cursor
	over(t, f, false, api.ErrForm)
}

func TestStreamsThatAreWrong(t *testing.T) {
	many := make([]api.Point, 513)
	for i := range many {
		many[i].T = 60 + i
	}
	for what, c := range map[string]struct {
		l  []api.Point
		ok bool
	}{
		"none":           {nil, true},
		"the first time": {[]api.Point{pt(60, 1, 1)}, true},
		"the last time":  {[]api.Point{pt(119, 1, 1)}, true},
		"too early":      {[]api.Point{pt(59, 1, 1)}, false},
		"too late":       {[]api.Point{pt(61, 1, 1), pt(120, 1, 1)}, false},
		"twice":          {[]api.Point{pt(61, 1, 1), pt(61, 1, 1)}, false},
		"not in order":   {[]api.Point{pt(62, 1, 1), pt(61, 1, 1)}, false},
		"too many":       {many, false},
	} {
		f := fetch()
		f.Hear(paged(5, false, meta(0, "a"), meta(60, "b"), meta(120, "c")))
		f.Hear(stream(6, pt(1, 1, 1)))
		want(t, what, f.Hear(stream(7, c.l...)), true)
		if c.ok {
			asks(t, f, blockRequest(8, 120, "c"))
			continue
		}
		over(t, f, false, api.ErrForm)
		series(t, f, of("a", pt(1, 1, 1)))
	}
}

func TestBlocksOfAnyLength(t *testing.T) {
	for _, c := range []struct {
		length, block, t int
		ok               bool
	}{
		{math.MaxInt, 5, 5, true}, {math.MaxInt, 5, 4, false}, {math.MaxInt, api.MaxTime, api.MaxTime, true}, {math.MaxInt, math.MaxInt, 5, false},
		{0, 5, 5, false}, {-1, 5, 5, false}, {math.MinInt, 5, 5, false}, {1, 5, 5, true}, {1, 5, 6, false}, {60, api.MaxTime, api.MaxTime + 1, false},
	} {
		f := peers.New(0, 0, c.length, rg(0, math.MaxInt), 0, 0)
		f.Hear(paged(0, false, meta(c.block, "a")))
		f.Hear(stream(1, pt(c.t, 1, 1)))
		want(t, fmt.Sprint(c), f.Done(), c.ok)
		want(t, fmt.Sprint(c), f.Err() == api.ErrForm, !c.ok)
	}
}

// P17.4

func TestSeries(t *testing.T) {
	f := peers.New(0, 0, 60, rg(10, 100), 7, 5)
	f.Hear(paged(5, false, meta(0, "b"), meta(0, "c"), meta(7, "b"), meta(60, "a"), meta(60, "b"), meta(60, "d")))
	f.Hear(stream(6, pt(9, 1, 1), pt(10, 1, 1), pt(30, 1, 1)))
	f.Hear(stream(7, pt(5, 1, 1))) // c has no point in the range
	series(t, f, of("b", pt(10, 1, 1), pt(30, 1, 1)))
	f.Hear(stream(8, pt(10, 1, 2), pt(30, 1, 0), pt(40, 1, 1)))
	f.Hear(stream(9, pt(99, 1, 1), pt(100, 1, 1)))
	f.Hear(stream(10, pt(60, 1, 1)))
	f.Hear(stream(11))
	want(t, "Done", f.Done(), true)
	all := []api.Series{of("a", pt(99, 1, 1)), of("b", pt(10, 1, 2), pt(30, 1, 1), pt(40, 1, 1), pt(60, 1, 1))}
	series(t, f, all...)
	got := f.Series()
	_ = append(got[0].Points, pt(7, 7, 7))
	got[0].Points[0].V, got[1].Points[0].V = 9, 9
	series(t, f, all...)
}

func TestMessagesAreNotKept(t *testing.T) {
	f := fetch()
	l := []api.Meta{meta(0, "a"), meta(0, "b")}
	f.Hear(paged(5, false, l...))
	l[0].ID, l[1].ID = "y", "z"
	asks(t, f, blockRequest(6, 0, "a"))
	ps := []api.Point{pt(1, 1, 1)}
	f.Hear(stream(6, ps...))
	ps[0].V = 9
	asks(t, f, blockRequest(7, 0, "b"))
	series(t, f, of("a", pt(1, 1, 1)))
}

// P17.5

func page(t *testing.T, what string, l []api.Meta, block int, id string, more bool, want ...api.Meta) {
	t.Helper()
	got, m := peers.Page(l, block, id)
	if !slices.Equal(got, want) || m != more {
		t.Errorf("%s: got %v, %v, want %v, %v", what, got, m, want, more)
	}
}

func TestPage(t *testing.T) {
	page(t, "nothing", nil, 0, "", false)
	l := []api.Meta{meta(60, "a"), meta(0, "b"), meta(0, "a"), meta(-60, "z"), meta(60, "")}
	page(t, "from the start", l, 0, "", false, meta(0, "a"), meta(0, "b"), meta(60, ""), meta(60, "a"))
	page(t, "after a name", l, 0, "a", false, meta(0, "b"), meta(60, ""), meta(60, "a"))
	page(t, "after a name that is not there", l, 0, "c", false, meta(60, ""), meta(60, "a"))
	page(t, "after a block", l, 60, "", false, meta(60, "a"))
	page(t, "after all", l, 60, "a", false)
	page(t, "from a negative block", l, math.MinInt, "", false, meta(-60, "z"), meta(0, "a"), meta(0, "b"), meta(60, ""), meta(60, "a"))
	want(t, "the list", l[0], meta(60, "a"))
	var many []api.Meta
	for i := range 20 {
		many = append(many, api.Meta{ID: fmt.Sprintf("s%02d", i), Block: 0, Count: i})
	}
	mixed := slices.Clone(many)
	rand.New(rand.NewSource(1)).Shuffle(20, func(i, j int) { mixed[i], mixed[j] = mixed[j], mixed[i] })
	page(t, "the first page", mixed, 0, "", true, many[:8]...)
	page(t, "the second page", mixed, 0, "s07", true, many[8:16]...)
	page(t, "just a page", mixed, 0, "s11", false, many[12:]...)
	page(t, "one more", mixed, 0, "s10", true, many[11:19]...)
}

func TestPageKeepsTheOrderOfEqualMetas(t *testing.T) {
	var l, want []api.Meta
	for i := range 60 {
		l = append(l, api.Meta{ID: string(rune('a' + i%3)), Block: 0, Count: i})
	}
	for i := range 8 {
		want = append(want, api.Meta{ID: "a", Count: 3 * i})
	}
	page(t, "equal ones", l, 0, "", true, want...)
}

// P17.6

func TestFetchReceivesAll(t *testing.T) {
	for seed := range int64(200) {
		r := rand.New(rand.NewSource(seed))
		type place struct {
			block int
			id    string
		}
		data, points := map[place][]api.Point{}, map[string][]api.Point{}
		var metas []api.Meta
		for range r.Intn(40) {
			p := place{60 * r.Intn(6), string(rune('a' + r.Intn(12)))}
			if data[p] != nil {
				continue
			}
			for x := range 60 {
				if r.Intn(6) == 0 {
					data[p] = append(data[p], pt(p.block+x, r.Uint64(), 1))
				}
			}
			metas = append(metas, meta(p.block, p.id))
		}
		f := fetch()
		seen := []wire.Message{stream(5, pt(1, 1, 1)), paged(4, false, meta(0, "zzz"))}
		for steps := 0; !f.Done(); steps++ {
			if steps > 500 {
				t.Fatal("no end")
			}
			for range r.Intn(4) {
				want(t, "a message heard before", f.Hear(seen[r.Intn(len(seen))]), false)
			}
			m, ok := f.Next()
			if !ok {
				t.Fatal(f.Err())
			}
			a := wire.Message{Kind: m.Kind + 1, Seq: m.Seq, Epoch: m.Epoch}
			if m.Kind == wire.Metas {
				a.Metas, a.More = peers.Page(metas, m.Block, m.ID)
			} else {
				a.Points = data[place{m.Block, m.ID}]
			}
			want(t, "an answer", f.Hear(a), true)
			seen = append(seen, a)
		}
		for _, m := range metas {
			points[m.ID] = append(points[m.ID], data[place{m.Block, m.ID}]...)
		}
		var all []api.Series
		for c := 'a'; c <= 'z'; c++ {
			if l := points[string(c)]; len(l) > 0 {
				slices.SortFunc(l, func(a, b api.Point) int { return a.T - b.T })
				all = append(all, of(string(c), l...))
			}
		}
		series(t, f, all...)
	}
}
