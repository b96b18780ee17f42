package merge

import (
	"container/heap"
	"slices"

	"thermograph/api"
)

// Iter goes through several sorted lists as one.
type Iter struct{ heads heads }

// New returns an iterator over the view of lists that are sorted.
func New(lists [][]api.Point) *Iter {
	own := make([][]api.Point, 0, len(lists))
	for _, l := range lists {
		own = append(own, slices.Clone(l))
	}
	return iterate(own)
}

// Next returns the next point of the view.
func (it *Iter) Next() (api.Point, bool) {
	if len(it.heads) == 0 {
		return api.Point{}, false
	}
	best := it.take()
	for len(it.heads) > 0 && it.heads[0][0].T == best.T {
		if p := it.take(); Wins(p, best) {
			best = p
		}
	}
	return best, true
}

// iterate returns an iterator that keeps the lists themselves.
func iterate(lists [][]api.Point) *Iter {
	it := &Iter{}
	for _, l := range lists {
		if len(l) > 0 {
			it.heads = append(it.heads, l)
		}
	}
	heap.Init(&it.heads)
	return it
}

// take removes the earliest point of all lists.
func (it *Iter) take() api.Point {
	l := heap.Pop(&it.heads).([]api.Point)
	if len(l) > 1 {
		heap.Push(&it.heads, l[1:])
	}
	return l[0]
}

// heads is a heap of lists that are not empty; on top is the one that begins earliest.
type heads [][]api.Point

func (h heads) Len() int           { return len(h) }
func (h heads) Less(i, j int) bool { return h[i][0].T < h[j][0].T }
func (h heads) Swap(i, j int)      { h[i], h[j] = h[j], h[i] }

func (h *heads) Push(x any) { *h = append(*h, x.([]api.Point)) }

func (h *heads) Pop() any {
	last := len(*h) - 1
	l := (*h)[last]
	*h = (*h)[:last]
	return l
}
