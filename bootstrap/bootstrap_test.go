package bootstrap_test

import (
	"fmt"
	"math"
	"math/rand"
	"slices"
	"testing"

	"thermograph/api"
	"thermograph/bootstrap"
	"thermograph/placement"
	"thermograph/ranges"
)

func want[T comparable](t *testing.T, what string, got, want T) {
	t.Helper()
	if got != want {
		t.Errorf("%s: got %v, want %v", what, got, want)
	}
}

func list[T comparable](t *testing.T, what string, got []T, want ...T) {
	t.Helper()
	if !slices.Equal(got, want) {
		t.Errorf("%s: got %v, want %v", what, got, want)
	}
}

func pt(t int, v, s uint64) api.Point { return api.Point{T: t, V: v, S: s} }

func rg(from, to int) api.Range { return api.Range{From: from, To: to} }

func of(id string, l ...api.Point) api.Series { return api.Series{ID: id, Points: l} }

func owner(node, state, from int) api.Owner {
	return api.Owner{Node: node, State: state, From: from}
}

// place is a placement whose shard 0 is this: 0 leaves, 1 and 2 stay, 3 comes from 0. In the shard 1 there are
// two that come, in the shard 2 three. In the shard 3 nobody comes.
func place() api.Placement {
	const i, a, l = api.Initializing, api.Available, api.Leaving
	return api.Placement{Version: 1, Nodes: []int{0, 1, 2, 3, 4, 5}, Shards: [][]api.Owner{
		{owner(0, l, -1), owner(1, a, -1), owner(2, a, -1), owner(3, i, 0)},
		{owner(0, i, 5), owner(1, a, -1), owner(3, i, 4), owner(4, l, -1), owner(5, l, -1)},
		{owner(0, l, -1), owner(1, l, -1), owner(2, l, -1), owner(3, i, 2), owner(4, i, 1), owner(5, i, 0)},
		{owner(0, a, -1), owner(1, a, -1), owner(2, a, -1)},
	}}
}

func boot(t *testing.T, shard, node int, need api.Range) *bootstrap.Boot {
	t.Helper()
	b, err := bootstrap.New(place(), shard, node, need)
	if err != api.OK {
		t.Fatal(err)
	}
	return b
}

func state(t *testing.T, b *bootstrap.Boot, left []api.Range, wants ...int) {
	t.Helper()
	list(t, "Left", b.Left(), left...)
	want(t, "Done", b.Done(), len(left) == 0)
	list(t, "Wants", b.Wants(), wants...)
}

func series(t *testing.T, b *bootstrap.Boot, want ...api.Series) {
	t.Helper()
	got := b.Series()
	if !slices.EqualFunc(got, want, func(a, b api.Series) bool { return a.ID == b.ID && slices.Equal(a.Points, b.Points) }) {
		t.Errorf("Series: got %v, want %v", got, want)
	}
}

// P18.1

func TestNew(t *testing.T) {
	want(t, "valid", placement.Check(place()), api.OK)
	for _, c := range []struct {
		shard, node int
		err         api.Errno
	}{
		{0, 1, api.OK}, {0, 3, api.OK}, {1, 0, api.OK}, {3, 2, api.OK},
		{0, 0, api.ErrNodes}, {0, 4, api.ErrNodes}, {0, -1, api.ErrNodes}, {3, 3, api.ErrNodes}, {2, 2, api.ErrNodes},
		{-1, 1, api.ErrNodes}, {4, 1, api.ErrNodes}, {math.MaxInt, 1, api.ErrNodes}, {0, math.MinInt, api.ErrNodes},
	} {
		b, err := bootstrap.New(place(), c.shard, c.node, rg(0, 60))
		want(t, fmt.Sprint(c.shard, c.node), err, c.err)
		want(t, "boot", b != nil, c.err == api.OK)
	}
	p := place()
	p.Version = 0
	b, err := bootstrap.New(p, 9, 9, rg(0, 60))
	want(t, "no placement", err, api.ErrForm)
	want(t, "boot", b == nil, true)
}

// P18.2 and P18.3

func TestInitializing(t *testing.T) {
	b := boot(t, 0, 3, rg(0, 60))
	state(t, b, []api.Range{rg(0, 60)}, 0, 1, 2)
	b.Local(rg(0, 60), []api.Series{of("a", pt(1, 1, 1))})
	state(t, b, []api.Range{rg(0, 60)}, 0, 1, 2) // its own never suffices
	for _, n := range []int{-1, 3, 4, 5, 8, math.MinInt} {
		want(t, fmt.Sprint("Got of ", n), b.Got(n, []api.Series{of("z", pt(1, 1, 1))}), false)
	}
	series(t, b, of("a", pt(1, 1, 1)))
	want(t, "Got", b.Got(1, nil), true)
	state(t, b, []api.Range{rg(0, 60)}, 0, 2)
	want(t, "again", b.Got(1, nil), true)
	state(t, b, []api.Range{rg(0, 60)}, 0, 2)
	want(t, "Got", b.Got(2, []api.Series{of("a", pt(1, 2, 2))}), true)
	state(t, b, nil)
	series(t, b, of("a", pt(1, 2, 2)))
	want(t, "the source, after all", b.Got(0, []api.Series{of("b", pt(2, 1, 1))}), true)
	state(t, b, nil)
	series(t, b, of("a", pt(1, 2, 2)), of("b", pt(2, 1, 1)))
}

func TestTheSourceSuffices(t *testing.T) {
	b := boot(t, 0, 3, rg(0, 60))
	want(t, "Got", b.Got(0, nil), true)
	state(t, b, nil)
	series(t, b)
	b = boot(t, 0, 3, rg(0, 60))
	want(t, "Got", b.Got(2, nil), true)
	state(t, b, []api.Range{rg(0, 60)}, 0, 1)
	want(t, "Got", b.Got(0, nil), true)
	state(t, b, nil)
}

func TestFewerOthers(t *testing.T) {
	b := boot(t, 1, 0, rg(0, 60)) // the only other one that is available is 1
	state(t, b, []api.Range{rg(0, 60)}, 5, 1)
	want(t, "another that comes", b.Got(3, nil), false)
	want(t, "the source of another", b.Got(4, nil), false)
	want(t, "Got", b.Got(1, nil), true)
	state(t, b, []api.Range{rg(0, 60)}, 5)
	want(t, "again", b.Got(1, nil), true)
	state(t, b, []api.Range{rg(0, 60)}, 5)
	want(t, "Got", b.Got(5, nil), true)
	state(t, b, nil)
	b = boot(t, 2, 4, rg(0, 60)) // there are none
	state(t, b, []api.Range{rg(0, 60)}, 1)
	for _, n := range []int{0, 2, 3, 5, 4} {
		want(t, fmt.Sprint("Got of ", n), b.Got(n, nil), false)
	}
	state(t, b, []api.Range{rg(0, 60)}, 1)
	want(t, "Got", b.Got(1, nil), true)
	state(t, b, nil)
}

func TestAvailable(t *testing.T) {
	b := boot(t, 0, 1, rg(0, 60))
	state(t, b, []api.Range{rg(0, 60)})
	b.Local(rg(0, 30), []api.Series{of("a", pt(40, 1, 1))})
	state(t, b, []api.Range{rg(30, 60)})
	series(t, b, of("a", pt(40, 1, 1)))
	for _, n := range []int{0, 1, 2, 3, -1} {
		want(t, fmt.Sprint("Got of ", n), b.Got(n, []api.Series{of("z", pt(1, 1, 1))}), false)
	}
	b.Local(rg(40, 50), nil)
	state(t, b, []api.Range{rg(30, 40), rg(50, 60)})
	b.Local(rg(60, 99), nil)
	b.Local(rg(35, 35), nil)
	b.Local(rg(59, 30), nil)
	state(t, b, []api.Range{rg(30, 40), rg(50, 60)})
	b.Local(rg(30, 55), nil)
	state(t, b, []api.Range{rg(55, 60)})
	b.Local(rg(math.MinInt, math.MaxInt), nil)
	state(t, b, nil)
	series(t, b, of("a", pt(40, 1, 1)))
}

func TestNothingIsNeeded(t *testing.T) {
	for _, need := range []api.Range{rg(5, 5), rg(9, 3), rg(math.MaxInt, math.MinInt)} {
		for _, node := range []int{1, 3} {
			b := boot(t, 0, node, need)
			state(t, b, nil)
			b.Local(rg(0, 99), []api.Series{of("a", pt(5, 1, 1))})
			series(t, b)
		}
	}
	b := boot(t, 0, 1, rg(math.MinInt, math.MaxInt))
	b.Local(rg(math.MinInt, 0), nil)
	state(t, b, []api.Range{rg(0, math.MaxInt)})
}

// P18.4

func TestSeries(t *testing.T) {
	b := boot(t, 0, 3, rg(10, 60))
	b.Local(rg(0, 0), []api.Series{of("b", pt(59, 1, 1), pt(60, 1, 1), pt(10, 1, 1), pt(9, 1, 1)), of("c", pt(9, 1, 1)), of("d"), of("b", pt(20, 1, 1))})
	b.Got(1, []api.Series{of("b", pt(10, 0, 2), pt(20, 1, 0)), of("a", pt(11, 1, 1)), of("", pt(12, 1, 1))})
	all := []api.Series{of("", pt(12, 1, 1)), of("a", pt(11, 1, 1)), of("b", pt(10, 0, 2), pt(20, 1, 1), pt(59, 1, 1))}
	series(t, b, all...)
	got := b.Series()
	_ = append(got[0].Points, pt(7, 7, 7))
	for i := range got {
		got[i].Points[0].V = 99
	}
	series(t, b, all...)
}

func TestMemoryIsApart(t *testing.T) {
	p := place()
	b, _ := bootstrap.New(p, 0, 3, rg(0, 60))
	p.Shards[0][1].Node, p.Shards[0][3].From = 7, 7
	l := []api.Series{of("a", pt(1, 1, 1), pt(1, 2, 2))}
	b.Got(1, l)
	l[0].Points[1].V, l[0].ID = 9, "z"
	b.Left()[0] = rg(7, 8)
	b.Wants()[0] = 99
	state(t, b, []api.Range{rg(0, 60)}, 0, 2)
	series(t, b, of("a", pt(1, 2, 2)))
}

// P18.5

func TestGivingTwiceIsGivingOnce(t *testing.T) {
	r := rand.New(rand.NewSource(1))
	for range 500 {
		shard := r.Intn(3)
		nodes := [][]int{{1, 2, 3}, {0, 1, 3}, {3, 4, 5}}[shard]
		node := nodes[r.Intn(3)]
		once, twice := boot(t, shard, node, rg(5, 20)), boot(t, shard, node, rg(5, 20))
		for range r.Intn(7) {
			l := []api.Series{of(string(rune('a'+r.Intn(3))), pt(r.Intn(25), uint64(r.Intn(3)), uint64(r.Intn(3))))}
			peer, x := r.Intn(6), rg(r.Intn(25), r.Intn(25))
			if r.Intn(3) == 0 {
				once.Local(x, l)
				twice.Local(x, l)
				twice.Local(x, l)
				continue
			}
			ok := once.Got(peer, l)
			want(t, "Got", twice.Got(peer, l), ok)
			want(t, "Got", twice.Got(peer, l), ok)
		}
		state(t, twice, once.Left(), once.Wants()...)
		series(t, twice, once.Series()...)
		list(t, "the form of Left", once.Left(), ranges.Normal(once.Left())...)
		if once.Done() && len(once.Wants()) > 0 {
			t.Error("done, and wants more")
		}
	}
}
