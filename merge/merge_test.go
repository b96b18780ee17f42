package merge_test

import (
	"math"
	"math/rand"
	"slices"
	"testing"

	"thermograph/api"
	"thermograph/merge"
)

func pt(t int, v, s uint64) api.Point { return api.Point{T: t, V: v, S: s} }

func same(t *testing.T, what string, got []api.Point, want ...api.Point) {
	t.Helper()
	if !slices.Equal(got, want) {
		t.Errorf("%s: got %v, want %v", what, got, want)
	}
}

// drain takes all points of an iterator.
func drain(t *testing.T, it *merge.Iter) []api.Point {
	t.Helper()
	var out []api.Point
	for {
		p, ok := it.Next()
		if !ok {
			for range 3 {
				if p, ok := it.Next(); ok || p != (api.Point{}) {
					t.Error("a point after the last:", p, ok)
				}
			}
			return out
		}
		out = append(out, p)
	}
}

// P6.1

func TestWins(t *testing.T) {
	for _, c := range []struct {
		a, b api.Point
		wins bool
	}{
		{pt(1, 5, 2), pt(1, 9, 1), true},
		{pt(1, 9, 1), pt(1, 5, 2), false},
		{pt(1, 5, 2), pt(1, 9, 2), false},
		{pt(1, 9, 2), pt(1, 5, 2), true},
		{pt(1, 5, 2), pt(1, 5, 2), false},
		{pt(1, 5, 2), pt(9, 5, 2), false},
		{pt(9, 5, 2), pt(1, 5, 2), false},
		{api.Point{T: 1, S: math.MaxUint64}, api.Point{T: 1, S: 1, V: 7}, true},
		{api.Point{T: 1, V: math.MaxUint64}, api.Point{T: 1, V: 1}, true},
		{api.Point{T: 1, S: 1 << 63}, api.Point{T: 1, S: 1<<63 - 1}, true},
	} {
		if merge.Wins(c.a, c.b) != c.wins {
			t.Errorf("Wins(%v, %v): got %v", c.a, c.b, !c.wins)
		}
	}
}

// P6.2

func TestMerge(t *testing.T) {
	same(t, "nothing", merge.Merge(nil))
	same(t, "empty lists", merge.Merge([][]api.Point{nil, {}, nil}))
	same(t, "the example", merge.Merge([][]api.Point{{pt(1, 5, 2), pt(3, 1, 1)}, {pt(1, 9, 1), pt(2, 2, 2)}}),
		pt(1, 5, 2), pt(2, 2, 2), pt(3, 1, 1))
	same(t, "unsorted", merge.Merge([][]api.Point{{pt(3, 1, 1), pt(1, 5, 2), pt(3, 2, 1), pt(1, 9, 1), pt(3, 1, 1)}}),
		pt(1, 5, 2), pt(3, 2, 1))
	same(t, "any times", merge.Merge([][]api.Point{{pt(math.MaxInt, 1, 1)}, {pt(math.MinInt, 1, 1), pt(-1, 1, 1)}}),
		pt(math.MinInt, 1, 1), pt(-1, 1, 1), pt(math.MaxInt, 1, 1))
}

func TestCut(t *testing.T) {
	l := []api.Point{pt(5, 1, 1), pt(3, 2, 2), pt(9, 3, 3), pt(3, 4, 4), pt(-7, 5, 5)}
	same(t, "some", merge.Cut(l, api.Range{From: 3, To: 9}), l[0], l[1], l[3])
	same(t, "from", merge.Cut(l, api.Range{From: 4, To: 10}), l[0], l[2])
	same(t, "to", merge.Cut(l, api.Range{From: -8, To: 3}), l[4])
	same(t, "all", merge.Cut(l, api.Range{From: math.MinInt, To: math.MaxInt}), l...)
	same(t, "empty", merge.Cut(l, api.Range{From: 3, To: 3}))
	same(t, "backwards", merge.Cut(l, api.Range{From: 9, To: 3}))
	same(t, "nothing", merge.Cut(nil, api.Range{From: 3, To: 9}))
}

func TestMemoryIsApart(t *testing.T) {
	lists := [][]api.Point{{pt(3, 1, 1), pt(1, 5, 2)}, {pt(4, 4, 4)}}
	got := merge.Merge(lists)
	_ = append(got, api.Point{T: 99})
	for i := range got {
		got[i].V = 77
	}
	same(t, "the first list", lists[0], pt(3, 1, 1), pt(1, 5, 2))
	same(t, "the second list", lists[1], pt(4, 4, 4))
	one := merge.Merge(lists[1:])
	one[0].V = 8
	same(t, "the second list", lists[1], pt(4, 4, 4))
	cut := merge.Cut(lists[0], api.Range{From: 0, To: 9})
	cut[0].V = 8
	same(t, "the first list", lists[0], pt(3, 1, 1), pt(1, 5, 2))
}

// P6.3

func TestIter(t *testing.T) {
	same(t, "nothing", drain(t, merge.New(nil)))
	same(t, "empty lists", drain(t, merge.New([][]api.Point{nil, {}})))
	same(t, "the example", drain(t, merge.New([][]api.Point{{pt(1, 5, 2), pt(3, 1, 1)}, {pt(1, 9, 1), pt(2, 2, 2)}})),
		pt(1, 5, 2), pt(2, 2, 2), pt(3, 1, 1))
	same(t, "three of one time", drain(t, merge.New([][]api.Point{{pt(1, 1, 1)}, {pt(1, 2, 2), pt(5, 0, 0)}, {pt(1, 3, 1)}})),
		pt(1, 2, 2), api.Point{T: 5})
}

func TestIterKeepsItsLists(t *testing.T) {
	lists := [][]api.Point{{pt(1, 1, 1), pt(2, 2, 2)}, {pt(3, 3, 3)}}
	it := merge.New(lists)
	it.Next()
	lists[0][1].V = 9
	lists[1] = nil
	same(t, "the rest", drain(t, it), pt(2, 2, 2), pt(3, 3, 3))
	same(t, "the first list", lists[0], pt(1, 1, 1), pt(2, 9, 2))
}

func TestIterOverUnsortedLists(t *testing.T) {
	r := rand.New(rand.NewSource(1))
	for range 300 {
		lists, n := random(r), 0
		for _, l := range lists {
			n += len(l)
		}
		if got := drain(t, merge.New(lists)); len(got) > n {
			t.Fatalf("%d points of %d", len(got), n)
		}
	}
}

// P6.4, and all of the above against a plain model

func random(r *rand.Rand) [][]api.Point {
	lists := make([][]api.Point, r.Intn(6))
	for i := range lists {
		for range r.Intn(20) {
			lists[i] = append(lists[i], api.Point{T: r.Intn(12), V: uint64(r.Intn(4)), S: uint64(r.Intn(4))})
		}
	}
	return lists
}

func plain(lists [][]api.Point) []api.Point {
	var out []api.Point
	for x := range 12 {
		var best *api.Point
		for _, l := range lists {
			for _, p := range l {
				if p.T == x && (best == nil || p.S > best.S || p.S == best.S && p.V > best.V) {
					best = &p
				}
			}
		}
		if best != nil {
			out = append(out, *best)
		}
	}
	return out
}

func TestModel(t *testing.T) {
	r := rand.New(rand.NewSource(2))
	for range 2000 {
		lists := random(r)
		want := plain(lists)
		same(t, "Merge", merge.Merge(lists), want...)

		var parts [][]api.Point
		for _, l := range lists {
			parts = append(parts, merge.Merge([][]api.Point{l}))
		}
		same(t, "parts first", merge.Merge(parts), want...)
		same(t, "repeated", merge.Merge(slices.Concat(parts, lists, parts)), want...)
		same(t, "Iter", drain(t, merge.New(parts)), want...)

		r.Shuffle(len(lists), func(i, j int) { lists[i], lists[j] = lists[j], lists[i] })
		for _, l := range lists {
			r.Shuffle(len(l), func(i, j int) { l[i], l[j] = l[j], l[i] })
		}
		same(t, "in another order", merge.Merge(lists), want...)
		if t.Failed() {
			t.FailNow()
		}
	}
}

func TestManyLists(t *testing.T) {
	var lists [][]api.Point
	const n = 100000
	for i := range n {
		lists = append(lists, []api.Point{{T: (i * 7919) % n, V: uint64(i)}})
	}
	got := merge.Merge(lists)
	if len(got) != n || got[0].T != 0 || got[n-1].T != n-1 {
		t.Error(len(got))
	}
}
