package ranges_test

import (
	"fmt"
	"math"
	"math/rand"
	"slices"
	"testing"

	"thermograph/api"
	"thermograph/ranges"
)

func want[T comparable](t *testing.T, what string, got, want T) {
	t.Helper()
	if got != want {
		t.Errorf("%s: got %v, want %v", what, got, want)
	}
}

func rg(from, to int) api.Range { return api.Range{From: from, To: to} }

func same(t *testing.T, what string, got []api.Range, want ...api.Range) {
	t.Helper()
	if !slices.Equal(got, want) {
		t.Errorf("%s: got %v, want %v", what, got, want)
	}
}

func example() []api.Range { return []api.Range{rg(5, 9), rg(1, 3), rg(3, 4), rg(8, 12), rg(7, 7)} }

// P16.1

func TestNormal(t *testing.T) {
	same(t, "nothing", ranges.Normal(nil))
	same(t, "the example", ranges.Normal(example()), rg(1, 4), rg(5, 12))
	same(t, "empty ones", ranges.Normal([]api.Range{rg(5, 5), rg(9, 3), rg(0, 0), rg(math.MaxInt, math.MinInt)}))
	same(t, "empty ones between", ranges.Normal([]api.Range{rg(1, 3), rg(2, 2), rg(3, 1), rg(3, 3), rg(3, 5), rg(4, 0)}), rg(1, 5))
	same(t, "an empty one first", ranges.Normal([]api.Range{rg(0, 0), rg(1, 2)}), rg(1, 2))
	same(t, "an empty one joins nothing", ranges.Normal([]api.Range{rg(1, 3), rg(3, 3), rg(4, 5)}), rg(1, 3), rg(4, 5))
	same(t, "one inside", ranges.Normal([]api.Range{rg(1, 9), rg(2, 3), rg(4, 5)}), rg(1, 9))
	same(t, "the same twice", ranges.Normal([]api.Range{rg(1, 9), rg(1, 9)}), rg(1, 9))
	same(t, "the same start", ranges.Normal([]api.Range{rg(1, 2), rg(1, 9), rg(1, 5)}), rg(1, 9))
	same(t, "adjacent ones", ranges.Normal([]api.Range{rg(3, 4), rg(1, 2), rg(2, 3)}), rg(1, 4))
	same(t, "a gap of one", ranges.Normal([]api.Range{rg(3, 4), rg(1, 2)}), rg(1, 2), rg(3, 4))
	same(t, "the extremes", ranges.Normal([]api.Range{rg(0, math.MaxInt), rg(math.MinInt, 0)}), rg(math.MinInt, math.MaxInt))
	same(t, "the extremes", ranges.Normal([]api.Range{rg(math.MaxInt-1, math.MaxInt), rg(math.MinInt, math.MinInt+1)}), rg(math.MinInt, math.MinInt+1), rg(math.MaxInt-1, math.MaxInt))
}

func TestAdd(t *testing.T) {
	l := []api.Range{rg(5, 9), rg(1, 3)}
	same(t, "between", ranges.Add(l, rg(3, 5)), rg(1, 9))
	same(t, "apart", ranges.Add(l, rg(20, 30)), rg(1, 3), rg(5, 9), rg(20, 30))
	same(t, "empty", ranges.Add(l, rg(4, 4)), rg(1, 3), rg(5, 9))
	same(t, "backwards", ranges.Add(l, rg(9, 1)), rg(1, 3), rg(5, 9))
	same(t, "to nothing", ranges.Add(nil, rg(1, 2)), rg(1, 2))
}

func TestSub(t *testing.T) {
	l := ranges.Normal(example()) // 1-4, 5-12
	same(t, "the example", ranges.Sub(l, rg(2, 6)), rg(1, 2), rg(6, 12))
	same(t, "from the midst", ranges.Sub(l, rg(7, 9)), rg(1, 4), rg(5, 7), rg(9, 12))
	same(t, "one range", ranges.Sub(l, rg(1, 4)), rg(5, 12))
	same(t, "more than one range", ranges.Sub(l, rg(0, 5)), rg(5, 12))
	same(t, "the gap", ranges.Sub(l, rg(4, 5)), l...)
	same(t, "all", ranges.Sub(l, rg(1, 12)))
	same(t, "empty", ranges.Sub(example(), rg(6, 6)), l...)
	same(t, "backwards", ranges.Sub(example(), rg(9, 2)), l...)
	same(t, "outside", ranges.Sub(l, rg(12, 99)), l...)
	same(t, "from nothing", ranges.Sub(nil, rg(1, 9)))
	same(t, "not normal", ranges.Sub(example(), rg(0, 8)), rg(8, 12))
	same(t, "the extremes", ranges.Sub([]api.Range{rg(math.MinInt, math.MaxInt)}, rg(math.MinInt+1, math.MaxInt-1)), rg(math.MinInt, math.MinInt+1), rg(math.MaxInt-1, math.MaxInt))
	same(t, "all times", ranges.Sub([]api.Range{rg(math.MinInt, math.MaxInt)}, rg(math.MinInt, math.MaxInt)))
}

// P16.2

func TestHas(t *testing.T) {
	for x := -2; x < 15; x++ {
		want(t, fmt.Sprint("Has ", x), ranges.Has(example(), x), x >= 1 && x < 4 || x >= 5 && x < 12)
	}
	want(t, "nothing", ranges.Has(nil, 0), false)
	want(t, "backwards", ranges.Has([]api.Range{rg(9, 1)}, 5), false)
	all := []api.Range{rg(math.MinInt, math.MaxInt)}
	want(t, "the least", ranges.Has(all, math.MinInt), true)
	want(t, "the last", ranges.Has(all, math.MaxInt-1), true)
	want(t, "the end", ranges.Has(all, math.MaxInt), false)
}

func TestCovers(t *testing.T) {
	for _, c := range []struct {
		r  api.Range
		ok bool
	}{
		{rg(1, 4), true}, {rg(1, 5), false}, {rg(2, 3), true}, {rg(0, 2), false}, {rg(1, 12), false}, {rg(5, 12), true}, {rg(6, 11), true}, {rg(5, 13), false},
		{rg(4, 4), true}, {rg(99, 99), true}, {rg(99, 3), true}, {rg(4, 5), false}, {rg(math.MinInt, math.MaxInt), false}, {rg(math.MaxInt, math.MinInt), true},
	} {
		want(t, fmt.Sprint("Covers ", c.r), ranges.Covers(example(), c.r), c.ok)
	}
	want(t, "nothing", ranges.Covers(nil, rg(1, 2)), false)
	want(t, "nothing of nothing", ranges.Covers(nil, rg(2, 2)), true)
	want(t, "all", ranges.Covers([]api.Range{rg(0, math.MaxInt), rg(math.MinInt, 0)}, rg(math.MinInt, math.MaxInt)), true)
}

func TestLen(t *testing.T) {
	want(t, "nothing", ranges.Len(nil), 0)
	want(t, "the example", ranges.Len(example()), 10)
	want(t, "overlaps count once", ranges.Len([]api.Range{rg(1, 9), rg(1, 9), rg(2, 3)}), 8)
	want(t, "backwards", ranges.Len([]api.Range{rg(9, 1)}), 0)
	want(t, "all times", ranges.Len([]api.Range{rg(math.MinInt, math.MaxInt)}), math.MaxUint64)
	want(t, "half of them", ranges.Len([]api.Range{rg(math.MinInt, 0)}), 1<<63)
	want(t, "two far apart", ranges.Len([]api.Range{rg(math.MinInt, math.MinInt+3), rg(math.MaxInt-4, math.MaxInt)}), 7)
}

func TestMemoryIsApart(t *testing.T) {
	l := append(make([]api.Range, 0, 9), rg(5, 9), rg(1, 3))
	for _, f := range []func() []api.Range{
		func() []api.Range { return ranges.Normal(l) },
		func() []api.Range { return ranges.Add(l, rg(20, 21)) },
		func() []api.Range { return ranges.Sub(l, rg(99, 100)) },
		func() []api.Range { return ranges.Sub(l, rg(9, 9)) },
	} {
		f()[0] = rg(7, 7)
		same(t, "the list", l, rg(5, 9), rg(1, 3))
		same(t, "its spare ranges", l[:4][2:], rg(0, 0), rg(0, 0))
	}
	ranges.Has(l, 1)
	ranges.Covers(l, rg(1, 2))
	ranges.Len(l)
	same(t, "the list", l, rg(5, 9), rg(1, 3))
}

// P16.3, and all of the above against sets of times

func TestModel(t *testing.T) {
	r := rand.New(rand.NewSource(1))
	random := func() api.Range { return rg(r.Intn(24)-12, r.Intn(24)-12) }
	set := func(l []api.Range) (s [40]bool) {
		for x := range s {
			for _, y := range l {
				s[x] = s[x] || x-20 >= y.From && x-20 < y.To
			}
		}
		return s
	}
	normal := func(s [40]bool) []api.Range {
		var l []api.Range
		for x := range s {
			if s[x] && !s[x-1] {
				l = append(l, rg(x-20, x-20))
			}
			if s[x] {
				l[len(l)-1].To++
			}
		}
		return l
	}
	for range 5000 {
		var l []api.Range
		for range r.Intn(7) {
			l = append(l, random())
		}
		x, s := random(), set(l)
		same(t, "Normal", ranges.Normal(l), normal(s)...)
		same(t, "Normal of Normal", ranges.Normal(ranges.Normal(l)), normal(s)...)
		same(t, "Add", ranges.Add(l, x), normal(set(append(slices.Clone(l), x)))...)
		want(t, "Covers", ranges.Covers(ranges.Add(l, x), x), true)
		less, covers, n := s, true, uint64(0)
		for i, in := range set([]api.Range{x}) {
			less[i] = s[i] && !in
			covers = covers && (s[i] || !in)
			want(t, "Has", ranges.Has(l, i-20), s[i])
			if s[i] {
				n++
			}
		}
		same(t, "Sub", ranges.Sub(l, x), normal(less)...)
		want(t, "Covers", ranges.Covers(l, x), covers)
		want(t, "Len", ranges.Len(l), n)
		if t.Failed() {
			t.Fatal(l, x)
		}
	}
}

func TestManyRanges(t *testing.T) {
	var l []api.Range
	for i := range 100000 {
		l = append(l, rg(2*(i*7919%100000), 2*(i*7919%100000)+1))
	}
	want(t, "ranges", len(ranges.Normal(l)), 100000)
	want(t, "times", ranges.Len(l), 100000)
	want(t, "one range", len(ranges.Add(l, rg(0, 200000))), 1)
}
