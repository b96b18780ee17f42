package placement_test

import (
	"fmt"
	"math"
	"math/rand"
	"reflect"
	"slices"
	"strings"
	"testing"

	"thermograph/api"
	"thermograph/placement"
)

func want[T comparable](t *testing.T, what string, got, want T) {
	t.Helper()
	if got != want {
		t.Errorf("%s: got %v, want %v", what, got, want)
	}
}

// text writes a placement: its version, its nodes, and the owners of each shard with their states and sources.
func text(p api.Placement) string {
	var s strings.Builder
	fmt.Fprintf(&s, "%d%v", p.Version, p.Nodes)
	for _, owners := range p.Shards {
		s.WriteString(" |")
		for _, o := range owners {
			fmt.Fprint(&s, " ", o.Node, []string{"?", "I", "A", "L"}[o.State&3])
			if o.From != -1 {
				fmt.Fprint(&s, o.From)
			}
		}
	}
	return s.String()
}

func is(t *testing.T, what string, p api.Placement, err api.Errno, s string) {
	t.Helper()
	if err != api.OK || text(p) != s {
		t.Errorf("%s: got %s, %v, want %s", what, text(p), err, s)
	}
}

func fails(t *testing.T, what string, p api.Placement, err, e api.Errno) {
	t.Helper()
	if err != e || !reflect.DeepEqual(p, api.Placement{}) {
		t.Errorf("%s: got %v, %v, want %v", what, p, err, e)
	}
}

func upTo(n int) []int {
	var l []int
	for i := range n {
		l = append(l, i)
	}
	return l
}

func first(t *testing.T, nodes, shards int) api.Placement {
	t.Helper()
	p, err := placement.Init(upTo(nodes), shards)
	if err != api.OK {
		t.Fatal(err)
	}
	return p
}

func clone(p api.Placement) api.Placement {
	q := api.Placement{Version: p.Version, Nodes: slices.Clone(p.Nodes)}
	for _, owners := range p.Shards {
		q.Shards = append(q.Shards, slices.Clone(owners))
	}
	return q
}

// settled is the placement after all have taken over what they take over.
func settled(t *testing.T, p api.Placement) api.Placement {
	t.Helper()
	for shard := range p.Shards {
		for _, o := range p.Shards[shard] {
			if o.State == api.Initializing {
				var err api.Errno
				if p, err = placement.Done(p, shard, o.Node); err != api.OK {
					t.Fatal(err)
				}
			}
		}
	}
	return p
}

func avail(nodes ...int) []api.Owner {
	var l []api.Owner
	for _, n := range nodes {
		l = append(l, api.Owner{Node: n, State: api.Available, From: -1})
	}
	return l
}

// P14.1

func TestCheck(t *testing.T) {
	leave := api.Owner{Node: 0, State: api.Leaving, From: -1}
	come := api.Owner{Node: 3, State: api.Initializing, From: 0}
	base := func() api.Placement {
		return api.Placement{Version: 1, Nodes: []int{0, 1, 2, 3, 7}, Shards: [][]api.Owner{
			avail(0, 1, 2),
			{leave, avail(1)[0], avail(2)[0], come},
		}}
	}
	want(t, "the base", placement.Check(base()), api.OK)
	for what, change := range map[string]func(p *api.Placement){
		"the greatest version":      func(p *api.Placement) { p.Version = api.MaxTime },
		"eight shards":              func(p *api.Placement) { p.Shards = slices.Repeat(p.Shards, 4) },
		"all nodes":                 func(p *api.Placement) { p.Nodes = upTo(8) },
		"a leaving node outside":    func(p *api.Placement) { p.Nodes = []int{1, 2, 3, 7}; p.Shards[0] = avail(1, 2, 7) },
		"two that come":             func(p *api.Placement) { p.Shards[1] = two(1, 0) },
		"three that come":           func(p *api.Placement) { p.Nodes = upTo(8); p.Shards[0] = three() },
		"the source is of any kind": func(p *api.Placement) { p.Shards[1] = two(0, 1) },
	} {
		p := base()
		change(&p)
		want(t, what, placement.Check(p), api.OK)
	}
	for what, change := range map[string]func(p *api.Placement){
		"version 0":                  func(p *api.Placement) { p.Version = 0 },
		"a negative version":         func(p *api.Placement) { p.Version = -1 },
		"a great version":            func(p *api.Placement) { p.Version = api.MaxTime + 1 },
		"no nodes":                   func(p *api.Placement) { p.Nodes = nil },
		"two nodes":                  func(p *api.Placement) { p.Nodes = []int{1, 2}; p.Shards = p.Shards[:0] },
		"two nodes, three owners":    func(p *api.Placement) { p.Nodes = []int{0, 1}; p.Shards = p.Shards[:1] },
		"a node twice":               func(p *api.Placement) { p.Nodes = []int{0, 1, 2, 3, 3} },
		"nodes out of order":         func(p *api.Placement) { p.Nodes = []int{0, 2, 1, 3} },
		"node 8":                     func(p *api.Placement) { p.Nodes = []int{0, 1, 2, 3, 8} },
		"node -1":                    func(p *api.Placement) { p.Nodes = []int{-1, 0, 1, 2, 3} },
		"no shards":                  func(p *api.Placement) { p.Shards = nil },
		"nine shards":                func(p *api.Placement) { p.Shards = slices.Repeat(p.Shards[:1], 9) },
		"no owners":                  func(p *api.Placement) { p.Shards[0] = nil },
		"two owners":                 func(p *api.Placement) { p.Shards[0] = avail(0, 1) },
		"four owners":                func(p *api.Placement) { p.Shards[0] = avail(0, 1, 2, 3) },
		"owners out of order":        func(p *api.Placement) { p.Shards[0] = avail(0, 2, 1) },
		"the first two out of order": func(p *api.Placement) { p.Shards[0] = avail(1, 0, 2) },
		"an owner twice":             func(p *api.Placement) { p.Shards[0] = avail(0, 1, 1) },
		"the first owner twice":      func(p *api.Placement) { p.Shards[0] = avail(0, 0, 1) },
		"one from one that stays": func(p *api.Placement) {
			p.Shards[0] = []api.Owner{avail(0)[0], avail(1)[0], {Node: 3, State: api.Initializing, From: 1}}
		},
		"one from nobody": func(p *api.Placement) {
			p.Shards[0] = []api.Owner{avail(0)[0], avail(1)[0], {Node: 3, State: api.Initializing, From: 2}}
		},
		"nobody's source": func(p *api.Placement) {
			p.Shards[0] = []api.Owner{avail(0)[0], avail(1)[0], {Node: 3, State: api.Initializing, From: -1}}
		},
		"an owner that is no node":     func(p *api.Placement) { p.Shards[0] = avail(0, 1, 4) },
		"owner 8":                      func(p *api.Placement) { p.Shards[0] = avail(0, 1, 8) },
		"owner -1":                     func(p *api.Placement) { p.Shards[0] = avail(-1, 0, 1) },
		"state 0":                      func(p *api.Placement) { p.Shards[0][0].State = 0 },
		"state 4":                      func(p *api.Placement) { p.Shards[0][0].State = 4 },
		"an available one from":        func(p *api.Placement) { p.Shards[0][0].From = 1 },
		"an available one from 0":      func(p *api.Placement) { p.Shards[0][1].From = 0 },
		"a leaving one from":           func(p *api.Placement) { p.Shards[1][0].From = 3 },
		"one that comes from nowhere":  func(p *api.Placement) { p.Shards[1][3].From = -1 },
		"one from an available one":    func(p *api.Placement) { p.Shards[1][3].From = 1 },
		"one from itself":              func(p *api.Placement) { p.Shards[1][3].From = 3 },
		"one from no owner":            func(p *api.Placement) { p.Shards[1][3].From = 7 },
		"a leaving one too many":       func(p *api.Placement) { p.Shards[0] = append([]api.Owner{leave}, avail(1, 2, 3)...) },
		"one that comes alone":         func(p *api.Placement) { p.Shards[1] = p.Shards[1][1:] },
		"two from one":                 func(p *api.Placement) { p.Shards[1] = two(0, 0) },
		"all but one leave":            func(p *api.Placement) { p.Shards[1][1].State = api.Leaving },
		"a second shard that is wrong": func(p *api.Placement) { p.Shards[1] = avail(0, 1) },
		"a leaving owner 8": func(p *api.Placement) {
			p.Shards[1] = []api.Owner{avail(1)[0], avail(2)[0], {Node: 3, State: api.Initializing, From: 8}, {Node: 8, State: api.Leaving, From: -1}}
		},
	} {
		p := base()
		change(&p)
		want(t, what, placement.Check(p), api.ErrForm)
		q, err := placement.Add(p, 6)
		fails(t, "Add: "+what, q, err, api.ErrForm)
		q, err = placement.Remove(p, 99)
		fails(t, "Remove: "+what, q, err, api.ErrForm)
		q, err = placement.Replace(p, 99, 99)
		fails(t, "Replace: "+what, q, err, api.ErrForm)
		q, err = placement.Done(p, 99, 99)
		fails(t, "Done: "+what, q, err, api.ErrForm)
	}
	want(t, "the zero placement", placement.Check(api.Placement{}), api.ErrForm)
}

// two is a shard in which 0 and 1 leave, and 3 and 7 come from the given ones.
func two(a, b int) []api.Owner {
	return []api.Owner{
		{Node: 0, State: api.Leaving, From: -1}, {Node: 1, State: api.Leaving, From: -1}, {Node: 2, State: api.Available, From: -1},
		{Node: 3, State: api.Initializing, From: a}, {Node: 7, State: api.Initializing, From: b},
	}
}

func three() []api.Owner {
	var l []api.Owner
	for n := range 3 {
		l = append(l, api.Owner{Node: n, State: api.Leaving, From: -1})
	}
	for n := range 3 {
		l = append(l, api.Owner{Node: 3 + n, State: api.Initializing, From: 2 - n})
	}
	return l
}

// P14.2

func TestLoadAndFind(t *testing.T) {
	p, _ := placement.Add(first(t, 3, 2), 3)
	is(t, "the placement", p, api.OK, "2[0 1 2 3] | 0L 1A 2A 3I0 | 0A 1A 2A")
	for node, n := range map[int]int{-1: 0, 0: 1, 1: 2, 2: 2, 3: 1, 4: 0, math.MinInt: 0} {
		want(t, fmt.Sprint("Load of ", node), placement.Load(p, node), n)
	}
	for _, c := range []struct {
		shard, node int
		o           api.Owner
		ok          bool
	}{
		{0, 0, api.Owner{Node: 0, State: api.Leaving, From: -1}, true},
		{0, 3, api.Owner{Node: 3, State: api.Initializing, From: 0}, true},
		{1, 0, api.Owner{Node: 0, State: api.Available, From: -1}, true},
		{1, 3, api.Owner{}, false}, {0, 4, api.Owner{}, false}, {0, -1, api.Owner{}, false},
		{-1, 0, api.Owner{}, false}, {2, 0, api.Owner{}, false}, {math.MinInt, 0, api.Owner{}, false}, {math.MaxInt, 0, api.Owner{}, false},
	} {
		o, ok := placement.Find(p, c.shard, c.node)
		want(t, fmt.Sprint("Find ", c.shard, c.node), o, c.o)
		want(t, fmt.Sprint("Find ", c.shard, c.node), ok, c.ok)
	}
	odd := api.Placement{Version: -5, Shards: [][]api.Owner{nil, {{Node: 99, State: 7, From: 3}, {Node: -4, State: api.Leaving}}, {{Node: 99}}}}
	want(t, "any placement", placement.Load(odd, 99), 2)
	want(t, "any placement", placement.Load(odd, -4), 0)
	want(t, "any placement", placement.Load(api.Placement{}, 0), 0)
	o, ok := placement.Find(odd, 1, 99)
	want(t, "any placement", o, api.Owner{Node: 99, State: 7, From: 3})
	want(t, "any placement", ok, true)
	_, ok = placement.Find(odd, 0, 99)
	want(t, "any placement", ok, false)
}

// P14.3

func TestInit(t *testing.T) {
	p, err := placement.Init([]int{2, 0, 1}, 2)
	is(t, "three nodes", p, err, "1[0 1 2] | 0A 1A 2A | 0A 1A 2A")
	p, err = placement.Init([]int{7, 5, 3, 1}, 4)
	is(t, "four nodes", p, err, "1[1 3 5 7] | 1A 3A 5A | 1A 3A 7A | 1A 5A 7A | 3A 5A 7A")
	for _, n := range p.Nodes {
		want(t, "Load", placement.Load(p, n), 3)
	}
	p, err = placement.Init([]int{0, 1, 2, 3, 4}, 3)
	is(t, "five nodes", p, err, "1[0 1 2 3 4] | 0A 1A 2A | 0A 3A 4A | 1A 2A 3A")
	p, err = placement.Init(upTo(8), 8)
	is(t, "eight nodes", p, err, "1[0 1 2 3 4 5 6 7] | 0A 1A 2A | 3A 4A 5A | 0A 6A 7A | 1A 2A 3A | 4A 5A 6A | 0A 1A 7A | 2A 3A 4A | 5A 6A 7A")
	for _, c := range []struct {
		nodes  []int
		shards int
		err    api.Errno
	}{
		{nil, 1, api.ErrNodes}, {[]int{0, 1}, 1, api.ErrNodes}, {[]int{0, 1, 1}, 1, api.ErrNodes}, {[]int{0, 1, 8}, 1, api.ErrNodes}, {[]int{0, 1, -1}, 1, api.ErrNodes},
		{[]int{0, 1, 2, 1}, 1, api.ErrNodes}, {append(upTo(8), 8), 1, api.ErrNodes}, {append(upTo(8), 0), 1, api.ErrNodes},
		{[]int{0, 1}, 0, api.ErrNodes}, {upTo(3), 0, api.ErrArg}, {upTo(3), 9, api.ErrArg}, {upTo(3), math.MinInt, api.ErrArg}, {upTo(3), math.MaxInt, api.ErrArg},
	} {
		p, err := placement.Init(c.nodes, c.shards)
		fails(t, fmt.Sprint(c.nodes, c.shards), p, err, c.err)
	}
}

// P14.4

func TestAdd(t *testing.T) {
	p, err := placement.Add(first(t, 3, 2), 3)
	is(t, "the example", p, err, "2[0 1 2 3] | 0L 1A 2A 3I0 | 0A 1A 2A")
	q, err := placement.Add(p, 4)
	fails(t, "busy", q, err, api.ErrBusy)
	q, err = placement.Add(p, 3)
	fails(t, "there already, and busy", q, err, api.ErrNodes)
	p, err = placement.Add(first(t, 3, 1), 5)
	is(t, "no part to take", p, err, "2[0 1 2 5] | 0A 1A 2A")
	p, err = placement.Add(first(t, 3, 4), 7)
	is(t, "three to take", p, err, "2[0 1 2 7] | 0L 1A 2A 7I0 | 0A 1L 2A 7I1 | 0A 1A 2L 7I2 | 0A 1A 2A")
	p, err = placement.Add(settled(t, p), 4)
	is(t, "from those with the most", p, err, "6[0 1 2 4 7] | 1L 2A 4I1 7A | 0L 2A 4I0 7A | 0A 1A 7A | 0A 1A 2A")
	p, err = placement.Init([]int{1, 2, 3, 4}, 4)
	is(t, "before", p, err, "1[1 2 3 4] | 1A 2A 3A | 1A 2A 4A | 1A 3A 4A | 2A 3A 4A")
	p, err = placement.Add(p, 0)
	is(t, "the least number", p, err, "2[0 1 2 3 4] | 0I1 1L 2A 3A | 0I2 1A 2L 4A | 1A 3A 4A | 2A 3A 4A")
	for _, node := range []int{-1, 8, 0, 2, math.MinInt, math.MaxInt} {
		q, err := placement.Add(first(t, 3, 2), node)
		fails(t, fmt.Sprint("node ", node), q, err, api.ErrNodes)
	}
}

func TestAddWithoutAGiver(t *testing.T) {
	// a node that is not in a shard can take each shard once only
	p := api.Placement{Version: 1, Nodes: upTo(3), Shards: [][]api.Owner{avail(0, 1, 2)}}
	q, err := placement.Add(p, 3)
	is(t, "a part of nothing", q, err, "2[0 1 2 3] | 0A 1A 2A")
	p = api.Placement{Version: 1, Nodes: upTo(7), Shards: slices.Repeat([][]api.Owner{avail(0, 1, 2)}, 8)}
	q, err = placement.Add(clone(p), 7)
	is(t, "a part of 24", q, err, "2[0 1 2 3 4 5 6 7] | 0L 1A 2A 7I0 | 0A 1L 2A 7I1 | 0A 1A 2L 7I2"+strings.Repeat(" | 0A 1A 2A", 5))
}

func TestRemove(t *testing.T) {
	p, err := placement.Remove(first(t, 4, 4), 0)
	is(t, "of four", p, err, "2[1 2 3] | 0L 1A 2A 3I0 | 0L 1A 2I0 3A | 0L 1I0 2A 3A | 1A 2A 3A")
	q, err := placement.Remove(p, 1)
	fails(t, "too few, and busy", q, err, api.ErrNodes)
	q, err = placement.Remove(settled(t, p), 1)
	fails(t, "three nodes", q, err, api.ErrNodes)
	q, err = placement.Remove(first(t, 3, 1), 0)
	fails(t, "three nodes", q, err, api.ErrNodes)
	p, err = placement.Remove(first(t, 5, 3), 1)
	is(t, "the least load", p, err, "2[0 2 3 4] | 0A 1L 2A 4I1 | 0A 3A 4A | 0I1 1L 2A 3A")
	q, err = placement.Remove(p, 2)
	fails(t, "busy", q, err, api.ErrBusy)
	q, err = placement.Remove(p, 1)
	fails(t, "no node any more, and busy", q, err, api.ErrNodes)
	p, err = placement.Remove(first(t, 5, 1), 4)
	is(t, "nothing to hand on", p, err, "2[0 1 2 3] | 0A 1A 2A")
	for _, node := range []int{-1, 4, 8, math.MaxInt} {
		q, err := placement.Remove(first(t, 4, 2), node)
		fails(t, fmt.Sprint("node ", node), q, err, api.ErrNodes)
	}
}

func TestReplace(t *testing.T) {
	p, err := placement.Replace(first(t, 3, 2), 0, 3)
	is(t, "of three", p, err, "2[1 2 3] | 0L 1A 2A 3I0 | 0L 1A 2A 3I0")
	q, err := placement.Replace(p, 1, 4)
	fails(t, "busy", q, err, api.ErrBusy)
	q, err = placement.Replace(p, 0, 4)
	fails(t, "no node any more, and busy", q, err, api.ErrNodes)
	p, err = placement.Replace(settled(t, p), 2, 0)
	is(t, "a lesser number", p, err, "5[0 1 3] | 0I2 1A 2L 3A | 0I2 1A 2L 3A")
	p, err = placement.Replace(first(t, 4, 2), 2, 7)
	is(t, "some shards", p, err, "2[0 1 3 7] | 0A 1A 2L 7I2 | 0A 1A 3A")
	for _, c := range [][2]int{{3, 4}, {-1, 4}, {0, 0}, {0, 1}, {0, 8}, {0, -1}, {9, 9}, {math.MaxInt, math.MinInt}} {
		q, err := placement.Replace(first(t, 3, 2), c[0], c[1])
		fails(t, fmt.Sprint(c), q, err, api.ErrNodes)
	}
}

func TestDone(t *testing.T) {
	p, _ := placement.Replace(first(t, 3, 2), 0, 3)
	q, err := placement.Done(p, 1, 3)
	is(t, "one shard", q, err, "3[1 2 3] | 0L 1A 2A 3I0 | 1A 2A 3A")
	r, err := placement.Done(q, 1, 3)
	fails(t, "again", r, err, api.ErrNodes)
	r, err = placement.Done(q, 0, 3)
	is(t, "the other one", r, err, "4[1 2 3] | 1A 2A 3A | 1A 2A 3A")
	for _, c := range [][2]int{{0, 0}, {0, 1}, {0, 4}, {0, -1}, {0, math.MinInt}} {
		r, err := placement.Done(p, c[0], c[1])
		fails(t, fmt.Sprint(c), r, err, api.ErrNodes)
	}
	for _, c := range [][2]int{{-1, 3}, {2, 3}, {math.MaxInt, 3}, {2, 99}} {
		r, err := placement.Done(p, c[0], c[1])
		fails(t, fmt.Sprint(c), r, err, api.ErrArg)
	}
	two := api.Placement{Version: 8, Nodes: []int{2, 3, 7}, Shards: [][]api.Owner{two(1, 0)}}
	r, err = placement.Done(two, 0, 3)
	is(t, "one of two", r, err, "9[2 3 7] | 0L 2A 3A 7I0")
	r, err = placement.Done(two, 0, 7)
	is(t, "the other of two", r, err, "9[2 3 7] | 1L 2A 3I1 7A")
}

func TestTheLastVersion(t *testing.T) {
	p := first(t, 4, 4)
	p.Version = api.MaxTime - 1
	q, err := placement.Add(p, 4)
	want(t, "one is left", err, api.OK)
	want(t, "one is left", q.Version, api.MaxTime)
	p.Version = api.MaxTime
	r, err := placement.Add(p, 4)
	fails(t, "Add", r, err, api.ErrArg)
	r, err = placement.Add(p, 3)
	fails(t, "Add", r, err, api.ErrNodes)
	r, err = placement.Remove(p, 3)
	fails(t, "Remove", r, err, api.ErrArg)
	r, err = placement.Remove(p, 4)
	fails(t, "Remove", r, err, api.ErrNodes)
	r, err = placement.Replace(p, 3, 4)
	fails(t, "Replace", r, err, api.ErrArg)
	r, err = placement.Replace(p, 3, 3)
	fails(t, "Replace", r, err, api.ErrNodes)
	r, err = placement.Done(q, 0, 4)
	fails(t, "Done", r, err, api.ErrArg)
	r, err = placement.Done(q, 0, 3)
	fails(t, "Done", r, err, api.ErrNodes)
	r, err = placement.Add(q, 5)
	fails(t, "Add", r, err, api.ErrBusy)
	r, err = placement.Remove(q, 0)
	fails(t, "Remove", r, err, api.ErrBusy)
	r, err = placement.Replace(q, 0, 7)
	fails(t, "Replace", r, err, api.ErrBusy)
}

func TestArgumentsAreLeftAlone(t *testing.T) {
	p := first(t, 4, 4)
	p.Nodes = append(make([]int, 0, 10), p.Nodes...)
	for i := range p.Shards {
		p.Shards[i] = append(make([]api.Owner, 0, 10), p.Shards[i]...)
	}
	p.Shards = append(make([][]api.Owner, 0, 10), p.Shards...)
	keep := clone(p)
	spare := func() bool {
		for _, o := range p.Shards {
			if o[:4][3] != (api.Owner{}) {
				return false
			}
		}
		return p.Nodes[:5][4] == 0
	}
	added, _ := placement.Add(p, 4)
	removed, _ := placement.Remove(p, 1)
	replaced, _ := placement.Replace(p, 1, 7)
	if !reflect.DeepEqual(p, keep) || !spare() {
		t.Error("the placement has changed")
	}
	for _, q := range []api.Placement{added, removed, replaced} {
		mine := clone(q)
		done, err := placement.Done(q, 0, q.Shards[0][slices.IndexFunc(q.Shards[0], func(o api.Owner) bool { return o.State == api.Initializing })].Node)
		want(t, "Done", err, api.OK)
		for _, x := range []api.Placement{done, q} {
			for i := range x.Shards {
				x.Shards[i] = append(x.Shards[i], api.Owner{Node: 99})
				x.Shards[i][0].Node = 77
			}
			x.Nodes[0] = 55
			if !reflect.DeepEqual(p, keep) || !spare() {
				t.Error("the placement is shared")
			}
			if reflect.DeepEqual(x, mine) {
				t.Error("nothing has changed")
			}
		}
	}
	nodes := []int{2, 1, 0}
	q, _ := placement.Init(nodes, 1)
	q.Nodes[0] = 9
	want(t, "nodes", fmt.Sprint(nodes), "[2 1 0]")
}

// P14.5, and the rules above against a plain model

// model keeps who holds and who leaves as sets.
type model struct {
	version int
	nodes   []int
	hold    []map[int]int // of each shard: the nodes that hold it, with where they come from, or -1
}

func (m *model) load(node int) int {
	n := 0
	for _, h := range m.hold {
		if _, ok := h[node]; ok {
			n++
		}
	}
	return n
}

func (m *model) text() string {
	p := api.Placement{Version: m.version, Nodes: m.nodes}
	for _, h := range m.hold {
		var owners []api.Owner
		for n := range 8 {
			if from, ok := h[n]; ok && from >= 0 {
				owners = append(owners, api.Owner{Node: n, State: api.Initializing, From: from})
			} else if ok {
				owners = append(owners, avail(n)...)
			}
			for _, from := range h {
				if from == n {
					owners = append(owners, api.Owner{Node: n, State: api.Leaving, From: -1})
				}
			}
		}
		p.Shards = append(p.Shards, owners)
	}
	return text(p)
}

func (m *model) move(shard, from, to int) {
	delete(m.hold[shard], from)
	m.hold[shard][to] = from
}

func (m *model) add(node int) {
	m.nodes = append(m.nodes, node)
	slices.Sort(m.nodes)
	for m.load(node) < 3*len(m.hold)/len(m.nodes) {
		from, shard, most := -1, -1, 0
		for _, n := range m.nodes {
			for i, h := range m.hold {
				_, gives := h[n]
				_, has := h[node]
				if gives && !has && m.load(n) > most {
					from, shard, most = n, i, m.load(n)
				}
			}
		}
		if from < 0 {
			return
		}
		m.move(shard, from, node)
	}
}

func (m *model) remove(node int) {
	m.nodes = slices.DeleteFunc(m.nodes, func(n int) bool { return n == node })
	for i, h := range m.hold {
		if _, ok := h[node]; !ok {
			continue
		}
		to, least := -1, 99
		for _, n := range m.nodes {
			if _, ok := h[n]; !ok && m.load(n) < least {
				to, least = n, m.load(n)
			}
		}
		m.move(i, node, to)
	}
}

func TestModel(t *testing.T) {
	for seed := range int64(300) {
		r := rand.New(rand.NewSource(seed))
		nodes := r.Perm(8)[:3+r.Intn(6)]
		p, err := placement.Init(nodes, 1+r.Intn(8))
		want(t, "Init", err, api.OK)
		for range 12 {
			p = settled(t, p)
			m := &model{version: p.Version + 1, nodes: slices.Clone(p.Nodes)}
			for _, owners := range p.Shards {
				h := map[int]int{}
				for _, o := range owners {
					h[o.Node] = -1
				}
				m.hold = append(m.hold, h)
			}
			node, in := r.Intn(8), p.Nodes[r.Intn(len(p.Nodes))]
			if slices.Contains(p.Nodes, node) {
				if len(p.Nodes) == 3 {
					continue
				}
				m.remove(in)
				p, err = placement.Remove(p, in)
			} else if r.Intn(2) == 0 {
				m.add(node)
				p, err = placement.Add(p, node)
			} else {
				m.nodes = append(slices.DeleteFunc(m.nodes, func(n int) bool { return n == in }), node)
				slices.Sort(m.nodes)
				for i, h := range m.hold {
					if _, ok := h[in]; ok {
						m.move(i, in, node)
					}
				}
				p, err = placement.Replace(p, in, node)
			}
			is(t, "the placement", p, err, m.text())
			want(t, "Check", placement.Check(p), api.OK)
			if t.Failed() {
				t.Fatal("seed", seed)
			}
		}
		p = settled(t, p)
		for _, owners := range p.Shards {
			if len(owners) != 3 || !slices.Equal(owners, avail(owners[0].Node, owners[1].Node, owners[2].Node)) {
				t.Fatal(text(p))
			}
		}
	}
}
