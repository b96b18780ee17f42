package buffer_test

import (
	"fmt"
	"maps"
	"math"
	"math/rand"
	"slices"
	"testing"

	"thermograph/api"
	"thermograph/buffer"
)

func want[T comparable](t *testing.T, what string, got, want T) {
	t.Helper()
	if got != want {
		t.Errorf("%s: got %v, want %v", what, got, want)
	}
}

func pt(t int, v, s uint64) api.Point { return api.Point{T: t, V: v, S: s} }

func always() api.Range { return api.Range{From: math.MinInt, To: math.MaxInt} }

func read(t *testing.T, b *buffer.Buffer, id string, r api.Range, want ...api.Point) {
	t.Helper()
	if got := b.Read(id, r); !slices.Equal(got, want) {
		t.Errorf("Read(%q, %v): got %v, want %v", id, r, got, want)
	}
}

func equal(a, b []api.Series) bool {
	return slices.EqualFunc(a, b, func(x, y api.Series) bool { return x.ID == y.ID && slices.Equal(x.Points, y.Points) })
}

func take(t *testing.T, b *buffer.Buffer, block, version int, want ...api.Series) {
	t.Helper()
	if got, v := b.Take(block); !equal(got, want) || v != version {
		t.Errorf("Take(%d): got %v, %d, want %v, %d", block, got, v, want, version)
	}
}

func series(id string, ps ...api.Point) api.Series { return api.Series{ID: id, Points: ps} }

// P11.1

func TestNew(t *testing.T) {
	b := buffer.New()
	want(t, "Len", b.Len(), 0)
	want(t, "Blocks", len(b.Blocks()), 0)
	read(t, b, "a", always())
	take(t, b, 0, 0)
	want(t, "Done", b.Done(0, 9), 0)
	want(t, "Drop", b.Drop(0), 0)
	want(t, "the first version", b.Write(0, "a", pt(1, 1, 1)), 1)
}

func TestWrite(t *testing.T) {
	b := buffer.New()
	want(t, "Write", b.Write(0, "a", pt(5, 1, 1)), 1)
	want(t, "Write", b.Write(0, "a", pt(5, 2, 1)), 2)
	want(t, "a point that loses", b.Write(0, "a", pt(5, 1, 1)), 3)
	read(t, b, "a", api.Range{From: 0, To: 9}, pt(5, 2, 1))
	take(t, b, 0, 3, series("a", pt(5, 2, 1)))
	want(t, "Write", b.Write(0, "a", pt(6, 1, 1)), 4)
	want(t, "Done", b.Done(0, 3), 1)
	read(t, b, "a", api.Range{From: 0, To: 9}, pt(6, 1, 1))
}

func TestThePointThatRemainsKeepsItsVersion(t *testing.T) {
	for _, p := range []api.Point{pt(5, 5, 5), pt(5, 4, 5), pt(5, 9, 4)} {
		b := buffer.New()
		b.Write(0, "a", pt(5, 5, 5))
		b.Write(0, "a", p)
		want(t, fmt.Sprint("after ", p), b.Done(0, 1), 1)
		want(t, "Len", b.Len(), 0)
	}
	for _, p := range []api.Point{pt(5, 6, 5), pt(5, 1, 6)} {
		b := buffer.New()
		b.Write(0, "a", pt(5, 5, 5))
		b.Write(0, "a", p)
		want(t, fmt.Sprint("after ", p), b.Done(0, 1), 0)
		read(t, b, "a", always(), p)
		want(t, "Done", b.Done(0, 2), 1)
	}
}

func TestPlacesAreApart(t *testing.T) {
	b := buffer.New()
	b.Write(0, "a", pt(5, 1, 1))
	b.Write(0, "b", pt(5, 2, 1))
	b.Write(60, "a", pt(6, 3, 1))
	b.Write(-60, "", pt(-5, 4, 1))
	want(t, "Len", b.Len(), 4)
	read(t, b, "a", always(), pt(5, 1, 1), pt(6, 3, 1))
	read(t, b, "b", always(), pt(5, 2, 1))
	read(t, b, "", always(), pt(-5, 4, 1))
	read(t, b, "c", always())
	take(t, b, 0, 4, series("a", pt(5, 1, 1)), series("b", pt(5, 2, 1)))
}

// P11.2

func TestRead(t *testing.T) {
	b := buffer.New()
	for _, x := range []int{9, 3, 7, -2, math.MaxInt, math.MinInt} {
		b.Write(x%4, "a", pt(x, 1, 1))
	}
	read(t, b, "a", api.Range{From: 3, To: 9}, pt(3, 1, 1), pt(7, 1, 1))
	read(t, b, "a", api.Range{From: 4, To: 10}, pt(7, 1, 1), pt(9, 1, 1))
	read(t, b, "a", api.Range{From: 9, To: 3})
	read(t, b, "a", api.Range{From: 3, To: 3})
	read(t, b, "a", always(), pt(math.MinInt, 1, 1), pt(-2, 1, 1), pt(3, 1, 1), pt(7, 1, 1), pt(9, 1, 1))
}

func TestReadIsTheViewOfAllBlocks(t *testing.T) {
	b := buffer.New()
	b.Write(0, "a", pt(5, 1, 2))
	b.Write(60, "a", pt(5, 9, 1))
	b.Write(120, "a", pt(5, 2, 2))
	b.Write(180, "a", pt(5, 1, 1))
	read(t, b, "a", always(), pt(5, 2, 2))
	want(t, "Len", b.Len(), 4)
	b.Drop(120)
	read(t, b, "a", always(), pt(5, 1, 2))
}

func TestBlocks(t *testing.T) {
	b := buffer.New()
	for _, x := range []int{60, -60, 7, math.MaxInt, 60, math.MinInt, 7} {
		b.Write(x, "a", pt(1, 1, 1))
		b.Write(x, "b", pt(1, 1, 1))
	}
	if got := b.Blocks(); !slices.Equal(got, []int{math.MinInt, -60, 7, 60, math.MaxInt}) {
		t.Error(got)
	}
	want(t, "Len", b.Len(), 10)
	b.Drop(7)
	b.Done(-60, 3) // its second point stays
	if got := b.Blocks(); !slices.Equal(got, []int{math.MinInt, -60, 60, math.MaxInt}) {
		t.Error(got)
	}
}

// P11.3

func TestTake(t *testing.T) {
	b := buffer.New()
	for i, id := range []string{"b", "a", "\xff", "ab", "b"} {
		b.Write(0, id, pt(9-i, 1, 1))
	}
	b.Write(1, "a", pt(3, 3, 3))
	all := []api.Series{series("a", pt(8, 1, 1)), series("ab", pt(6, 1, 1)), series("b", pt(5, 1, 1), pt(9, 1, 1)), series("\xff", pt(7, 1, 1))}
	take(t, b, 0, 6, all...)
	take(t, b, 0, 6, all...)
	take(t, b, 1, 6, series("a", pt(3, 3, 3)))
	take(t, b, 2, 6)
	want(t, "Len", b.Len(), 6)
}

func TestDone(t *testing.T) {
	b := buffer.New()
	for i := range 6 {
		b.Write(i%2, "a", pt(i, 1, 1)) // the version is i + 1
	}
	want(t, "no version", b.Done(0, 0), 0)
	want(t, "negative", b.Done(0, math.MinInt), 0)
	want(t, "another block", b.Done(7, 99), 0)
	want(t, "some", b.Done(0, 3), 2)
	want(t, "again", b.Done(0, 3), 0)
	read(t, b, "a", always(), pt(1, 1, 1), pt(3, 1, 1), pt(4, 1, 1), pt(5, 1, 1))
	want(t, "a version to come", b.Done(1, math.MaxInt), 3)
	read(t, b, "a", always(), pt(4, 1, 1))
	take(t, b, 1, 6)
	want(t, "the version goes on", b.Write(1, "a", pt(0, 0, 0)), 7)
}

func TestDrop(t *testing.T) {
	b := buffer.New()
	b.Write(0, "a", pt(1, 1, 1))
	b.Write(0, "b", pt(1, 1, 1))
	b.Write(0, "b", pt(2, 1, 1))
	b.Write(1, "b", pt(3, 1, 1))
	want(t, "Drop", b.Drop(0), 3)
	want(t, "Drop", b.Drop(0), 0)
	want(t, "Len", b.Len(), 1)
	read(t, b, "a", always())
	read(t, b, "b", always(), pt(3, 1, 1))
	want(t, "a lesser point after it", b.Write(0, "a", pt(1, 0, 0)), 5)
	read(t, b, "a", always(), pt(1, 0, 0))
}

func TestResultsAreApart(t *testing.T) {
	b := buffer.New()
	b.Write(0, "a", pt(1, 1, 1))
	b.Write(0, "b", pt(2, 1, 1))
	l, _ := b.Take(0)
	_ = append(l[0].Points, pt(9, 9, 9))
	l[0].Points[0].V, l[0].ID = 7, "z"
	b.Read("a", always())[0].V = 7
	b.Blocks()[0] = 5
	want(t, "the other series", l[1].Points[0], pt(2, 1, 1))
	take(t, b, 0, 2, series("a", pt(1, 1, 1)), series("b", pt(2, 1, 1)))
}

// P11.4, and all of the above against a plain model

type place struct {
	block int
	id    string
	t     int
}

type cell struct {
	p       api.Point
	version int
}

func TestModel(t *testing.T) {
	for seed := range int64(200) {
		r := rand.New(rand.NewSource(seed))
		b, m, version := buffer.New(), map[place]cell{}, 0
		for range 120 {
			block := r.Intn(3) - 1
			switch k := r.Intn(12); {
			case k == 0:
				limit := version - r.Intn(20)
				n := 0
				maps.DeleteFunc(m, func(at place, c cell) bool {
					gone := at.block == block && c.version <= limit
					if gone {
						n++
					}
					return gone
				})
				want(t, "Done", b.Done(block, limit), n)
			case k == 1:
				n := len(m)
				maps.DeleteFunc(m, func(at place, c cell) bool { return at.block == block })
				want(t, "Drop", b.Drop(block), n-len(m))
			default:
				version++
				p := pt(r.Intn(6), uint64(r.Intn(3)), uint64(r.Intn(3)))
				at := place{block, string(rune('a' + r.Intn(3))), p.T}
				if c, ok := m[at]; !ok || p.S > c.p.S || p.S == c.p.S && p.V > c.p.V {
					m[at] = cell{p, version}
				}
				want(t, "Write", b.Write(block, at.id, p), version)
			}
			check(t, b, m, version)
			if t.Failed() {
				t.Fatal("seed", seed)
			}
		}
	}
}

func check(t *testing.T, b *buffer.Buffer, m map[place]cell, version int) {
	t.Helper()
	want(t, "Len", b.Len(), len(m))
	blocks := map[int]bool{}
	for _, id := range []string{"a", "b", "c"} {
		best := map[int]api.Point{}
		for at, c := range m {
			blocks[at.block] = true
			if q, ok := best[at.t]; at.id == id && (!ok || c.p.S > q.S || c.p.S == q.S && c.p.V > q.V) {
				best[at.t] = c.p
			}
		}
		var ps []api.Point
		for _, x := range slices.Sorted(maps.Keys(best)) {
			ps = append(ps, best[x])
		}
		read(t, b, id, always(), ps...)
	}
	if got := b.Blocks(); !slices.Equal(got, slices.Sorted(maps.Keys(blocks))) {
		t.Errorf("Blocks: got %v, want %v", got, blocks)
	}
	for block := -1; block < 3; block++ {
		var l []api.Series
		for _, id := range []string{"a", "b", "c"} {
			var ps []api.Point
			for x := range 6 {
				if c, ok := m[place{block, id, x}]; ok {
					ps = append(ps, c.p)
				}
			}
			if len(ps) > 0 {
				l = append(l, series(id, ps...))
			}
		}
		take(t, b, block, version, l...)
	}
}

func TestTheOrderOfWritesDoesNotMatter(t *testing.T) {
	r := rand.New(rand.NewSource(1))
	var ps []api.Point
	for range 200 {
		ps = append(ps, pt(r.Intn(20), uint64(r.Intn(5)), uint64(r.Intn(5))))
	}
	var first []api.Point
	for range 20 {
		r.Shuffle(len(ps), func(i, j int) { ps[i], ps[j] = ps[j], ps[i] })
		b := buffer.New()
		for _, p := range ps {
			b.Write(p.T/5*5, "a", p)
		}
		got := b.Read("a", always())
		if first == nil {
			first = got
		}
		if !slices.Equal(got, first) {
			t.Fatal(got, first)
		}
	}
}
