package repair_test

import (
	"fmt"
	"math"
	"math/rand"
	"reflect"
	"slices"
	"testing"

	"thermograph/api"
	"thermograph/repair"
	"thermograph/tsz"
)

func want[T comparable](t *testing.T, what string, got, want T) {
	t.Helper()
	if got != want {
		t.Errorf("%s: got %v, want %v", what, got, want)
	}
}

func list[T comparable](t *testing.T, what string, got []T, want ...T) {
	t.Helper()
	if !slices.Equal(got, want) {
		t.Errorf("%s: got %v, want %v", what, got, want)
	}
}

func pt(t int, v, s uint64) api.Point { return api.Point{T: t, V: v, S: s} }

func of(id string, l ...api.Point) api.Series { return api.Series{ID: id, Points: l} }

func mt(id string, block, count int, sum uint32) api.Meta {
	return api.Meta{ID: id, Block: block, Count: count, Sum: sum}
}

func at(id string, block int) repair.Place { return repair.Place{ID: id, Block: block} }

func ask(peer int, id string, block int) repair.Ask {
	return repair.Ask{Peer: peer, At: at(id, block)}
}

// P19.1

func TestDiff(t *testing.T) {
	list(t, "nothing", repair.Diff(nil, nil))
	list(t, "the example", repair.Diff([]api.Meta{mt("a", 0, 2, 0)}, []api.Meta{mt("a", 0, 3, 0), mt("b", 0, 1, 0)}), at("a", 0), at("b", 0))
	own := []api.Meta{mt("a", 60, 2, 7), mt("b", 0, 1, 1), mt("a", 0, 2, 7)}
	list(t, "the same", repair.Diff(own, own))
	list(t, "in another order", repair.Diff(own, []api.Meta{own[2], own[0], own[1]}))
	list(t, "less", repair.Diff(own, own[:1]))
	list(t, "nothing", repair.Diff(own, nil))
	list(t, "of nothing", repair.Diff(nil, own), at("a", 0), at("b", 0), at("a", 60))
	list(t, "another count", repair.Diff(own, []api.Meta{mt("a", 60, 3, 7)}), at("a", 60))
	list(t, "another sum", repair.Diff(own, []api.Meta{mt("a", 60, 2, 8)}), at("a", 60))
	list(t, "another block", repair.Diff(own, []api.Meta{mt("b", 60, 1, 1)}), at("b", 60))
	list(t, "another name", repair.Diff(own, []api.Meta{mt("c", 0, 1, 1)}), at("c", 0))
	list(t, "nothing of nothing", repair.Diff(nil, []api.Meta{{}}), at("", 0))
	list(t, "any block", repair.Diff(nil, []api.Meta{mt("a", math.MaxInt, 1, 1), mt("a", math.MinInt, 1, 1)}), at("a", math.MinInt), at("a", math.MaxInt))
}

func TestOnlyTheFirstOfAPlaceCounts(t *testing.T) {
	own := []api.Meta{mt("a", 0, 2, 7), mt("a", 0, 3, 8), mt("b", 0, 1, 1)}
	list(t, "in own", repair.Diff(own, []api.Meta{mt("a", 0, 3, 8)}), at("a", 0))
	list(t, "in own", repair.Diff(own, []api.Meta{mt("a", 0, 2, 7)}))
	list(t, "in other", repair.Diff(own, []api.Meta{mt("a", 0, 2, 7), mt("a", 0, 9, 9)}))
	list(t, "in other", repair.Diff(own, []api.Meta{mt("a", 0, 9, 9), mt("a", 0, 2, 7), mt("a", 0, 9, 9)}), at("a", 0))
	list(t, "in Alike", []bool{repair.Alike([][]api.Meta{own, {mt("a", 0, 2, 7), mt("b", 0, 1, 1)}}), repair.Alike([][]api.Meta{own, {mt("a", 0, 3, 8), mt("b", 0, 1, 1)}})}, true, false)
	list(t, "in Plan", repair.Plan(own, [][]api.Meta{{mt("a", 0, 3, 8), mt("a", 0, 2, 7)}}), ask(0, "a", 0))
}

// P19.2

func TestPlan(t *testing.T) {
	list(t, "nothing", repair.Plan(nil, nil))
	list(t, "the example", repair.Plan(nil, [][]api.Meta{{mt("a", 0, 1, 1)}, {mt("a", 0, 1, 1)}}), ask(0, "a", 0), ask(1, "a", 0))
	own := []api.Meta{mt("a", 0, 2, 7), mt("b", 60, 1, 1)}
	others := [][]api.Meta{
		{mt("b", 60, 2, 2), mt("z", 0, 1, 1)},
		own,
		nil,
		{mt("a", 120, 1, 1), mt("b", 60, 2, 2), mt("a", 0, 2, 8), mt("z", 0, 1, 1)},
	}
	list(t, "several", repair.Plan(own, others), ask(3, "a", 0), ask(0, "z", 0), ask(3, "z", 0), ask(0, "b", 60), ask(3, "b", 60), ask(3, "a", 120))
}

func TestAlike(t *testing.T) {
	a := []api.Meta{mt("a", 0, 2, 7), mt("b", 60, 1, 1)}
	b := []api.Meta{a[1], a[0], a[1]}
	want(t, "none", repair.Alike(nil), true)
	want(t, "one", repair.Alike([][]api.Meta{a}), true)
	want(t, "empty ones", repair.Alike([][]api.Meta{nil, {}, nil}), true)
	want(t, "the same", repair.Alike([][]api.Meta{a, b, a}), true)
	want(t, "the first has more", repair.Alike([][]api.Meta{a, a[:1]}), false)
	want(t, "the second has more", repair.Alike([][]api.Meta{a[:1], a}), false)
	want(t, "the last has more", repair.Alike([][]api.Meta{a, b, a, append(slices.Clone(a), mt("c", 0, 1, 1))}), false)
	want(t, "another count", repair.Alike([][]api.Meta{a, {mt("a", 0, 3, 7), a[1]}}), false)
	want(t, "another sum", repair.Alike([][]api.Meta{a, {mt("a", 0, 2, 8), a[1]}}), false)
	want(t, "another place", repair.Alike([][]api.Meta{a, {mt("a", 1, 2, 7), a[1]}}), false)
	want(t, "nothing and something", repair.Alike([][]api.Meta{nil, {{}}}), false)
}

// P19.3

func series(t *testing.T, what string, got []api.Series, want ...api.Series) {
	t.Helper()
	if !slices.EqualFunc(got, want, func(a, b api.Series) bool { return a.ID == b.ID && slices.Equal(a.Points, b.Points) }) {
		t.Errorf("%s: got %v, want %v", what, got, want)
	}
}

func TestJoin(t *testing.T) {
	series(t, "nothing", repair.Join(nil))
	series(t, "no points", repair.Join([][]api.Series{nil, {of("a"), of("b")}, {of("a")}}))
	series(t, "several", repair.Join([][]api.Series{
		{of("b", pt(5, 1, 1), pt(3, 1, 1), pt(3, 2, 1)), of("c"), of("b", pt(4, 1, 1))},
		{of("a", pt(-7, 1, 1)), of("", pt(math.MaxInt, 1, 1)), of("b", pt(5, 0, 2), pt(3, 9, 0))},
	}), of("", pt(math.MaxInt, 1, 1)), of("a", pt(-7, 1, 1)), of("b", pt(3, 2, 1), pt(4, 1, 1), pt(5, 0, 2)))
}

func TestMemoryIsApart(t *testing.T) {
	l := []api.Series{of("a", pt(5, 1, 1), pt(3, 1, 1)), of("b", pt(5, 1, 1))}
	got := repair.Join([][]api.Series{l})
	_ = append(got[0].Points, pt(9, 9, 9))
	got[0].Points[0].V, got[1].Points[0].V, got[0].ID = 9, 9, "z"
	repair.Describe(l, 60)
	series(t, "the list", l, of("a", pt(5, 1, 1), pt(3, 1, 1)), of("b", pt(5, 1, 1)))
	m := []api.Meta{mt("b", 0, 1, 1), mt("a", 0, 1, 1)}
	repair.Diff(m, m)
	repair.Plan(m, [][]api.Meta{m})
	repair.Alike([][]api.Meta{m, m})
	list(t, "the Metas", m, mt("b", 0, 1, 1), mt("a", 0, 1, 1))
}

func meta(id string, block int, l ...api.Point) api.Meta {
	sum, _ := tsz.Sum(l)
	return api.Meta{ID: id, Block: block, Count: len(l), Sum: sum}
}

func TestDescribe(t *testing.T) {
	got, err := repair.Describe([]api.Series{
		of("b", pt(60, 1, 1), pt(59, 1, 1), pt(0, 1, 1)), of("a", pt(61, 1, 1)), of("c"), of("b", pt(59, 2, 1), pt(119, 1, 1), pt(240, 1, 1)),
	}, 60)
	want(t, "error", err, api.OK)
	list(t, "Describe", got, meta("b", 0, pt(0, 1, 1), pt(59, 2, 1)), meta("a", 60, pt(61, 1, 1)), meta("b", 60, pt(60, 1, 1), pt(119, 1, 1)), meta("b", 240, pt(240, 1, 1)))
	got, err = repair.Describe(nil, 1)
	want(t, "nothing", err, api.OK)
	list(t, "nothing", got)
	got, err = repair.Describe([]api.Series{of("a", pt(0, 1, 1), pt(api.MaxTime, 1, 1))}, api.MaxTime)
	want(t, "the longest blocks", err, api.OK)
	list(t, "the longest blocks", got, meta("a", 0, pt(0, 1, 1)), meta("a", api.MaxTime, pt(api.MaxTime, 1, 1)))
	got, err = repair.Describe([]api.Series{of("a", pt(0, 1, 1), pt(5, 1, 1), pt(6, 1, 1))}, 1)
	want(t, "the shortest blocks", err, api.OK)
	list(t, "the shortest blocks", got, meta("a", 0, pt(0, 1, 1)), meta("a", 5, pt(5, 1, 1)), meta("a", 6, pt(6, 1, 1)))
}

func TestDescribeErrors(t *testing.T) {
	var many []api.Point
	for i := range 513 {
		many = append(many, pt(1000+i, 1, 1))
	}
	bad := of("b", pt(-1, 1, 1), pt(5, 1, 1))
	for _, block := range []int{0, -1, api.MaxTime + 1, math.MinInt, math.MaxInt} {
		got, err := repair.Describe([]api.Series{bad}, block)
		want(t, fmt.Sprint("block ", block), err, api.ErrArg)
		list(t, "Metas", got)
	}
	for what, c := range map[string]struct {
		l     []api.Series
		block int
		err   api.Errno
	}{
		"a negative time":              {[]api.Series{of("a", pt(5, 1, 1)), bad}, 60, api.ErrArg},
		"a late time":                  {[]api.Series{of("a", pt(api.MaxTime+1, 1, 1))}, 60, api.ErrArg},
		"513 points":                   {[]api.Series{of("a", many...)}, 5000, api.ErrMany},
		"512 and one":                  {[]api.Series{of("a", many...)}, 1512, api.OK},
		"513 points, then a late time": {[]api.Series{of("b", pt(api.MaxTime+1, 1, 1)), of("a", many...)}, 5000, api.ErrMany},
		"a late time, then 513 points": {[]api.Series{of("b", many...), of("a", pt(api.MaxTime+1, 1, 1))}, 5000, api.ErrArg},
		"a later block":                {[]api.Series{of("a", slices.Concat(many, []api.Point{pt(-5, 1, 1)})...)}, 1000, api.ErrArg},
		"a negative time makes 513":    {[]api.Series{of("a", slices.Concat(many[:512], []api.Point{pt(math.MinInt, 1, 1)})...)}, 5000, api.ErrMany},
	} {
		got, err := repair.Describe(c.l, c.block)
		want(t, what, err, c.err)
		want(t, what, len(got) > 0, c.err == api.OK)
	}
}

// P19.4

func TestWhatIsJoinedIsAlike(t *testing.T) {
	r := rand.New(rand.NewSource(1))
	for range 300 {
		lists := make([][]api.Series, r.Intn(5))
		for i := range lists {
			for range r.Intn(6) {
				s := of(string(rune('a' + r.Intn(3))))
				for range r.Intn(9) {
					s.Points = append(s.Points, pt(r.Intn(300), uint64(r.Intn(3)), uint64(r.Intn(3))))
				}
				lists[i] = append(lists[i], s)
			}
		}
		one := repair.Join(lists)
		r.Shuffle(len(lists), func(i, j int) { lists[i], lists[j] = lists[j], lists[i] })
		other := repair.Join(append(slices.Clone(lists), lists...))
		if !reflect.DeepEqual(one, other) {
			t.Fatal(one, other)
		}
		a, err := repair.Describe(one, 60)
		want(t, "Describe", err, api.OK)
		b, _ := repair.Describe(slices.Concat(lists...), 60)
		list(t, "the description", b, a...)
		want(t, "Alike", repair.Alike([][]api.Meta{a, b}), true)
		list(t, "Plan", repair.Plan(a, [][]api.Meta{b, a}))
	}
}

func TestAlikeIsNoDiff(t *testing.T) {
	r := rand.New(rand.NewSource(2))
	for range 2000 {
		lists := make([][]api.Meta, r.Intn(4))
		for i := range lists {
			for range r.Intn(3) {
				lists[i] = append(lists[i], mt(string(rune('a'+r.Intn(2))), 60*r.Intn(2), r.Intn(2), uint32(r.Intn(2))))
			}
		}
		alike := true
		for _, a := range lists {
			for _, b := range lists {
				alike = alike && len(repair.Diff(a, b)) == 0
			}
		}
		want(t, fmt.Sprint(lists), repair.Alike(lists), alike)
	}
}
