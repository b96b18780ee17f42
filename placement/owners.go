package placement

import (
	"slices"

	"thermograph/api"
)

// search returns the first element that is what is sought.
func search[T any](l []T, is func(T) bool) (T, bool) {
	for _, x := range l {
		if is(x) {
			return x, true
		}
	}
	var none T
	return none, false
}

// holds reports whether the node is an owner that is not leaving.
func holds(owners []api.Owner, node int) bool {
	_, ok := search(owners, func(o api.Owner) bool { return o.Node == node && o.State != api.Leaving })
	return ok
}

// busy reports whether a node is taking over a shard.
func busy(p api.Placement) bool {
	_, ok := search(p.Shards, func(owners []api.Owner) bool {
		_, ok := search(owners, func(o api.Owner) bool { return o.State == api.Initializing })
		return ok
	})
	return ok
}

// next returns a copy of the placement with the next version. Limited capacities make append copy.
func next(p api.Placement) (api.Placement, api.Errno) {
	if p.Version == api.MaxTime {
		return api.Placement{}, api.ErrArg
	}
	out := api.Placement{Version: p.Version + 1, Nodes: append(p.Nodes[:0:0], p.Nodes...)}
	for _, owners := range p.Shards {
		out.Shards = append(out.Shards, append(owners[:0:0], owners...))
	}
	return out, api.OK
}

// least returns the node with the smallest load that does not hold the shard.
func least(p api.Placement, shard int) int {
	best := -1
	for _, n := range p.Nodes {
		if !holds(p.Shards[shard], n) && (best < 0 || Load(p, n) < Load(p, best)) {
			best = n
		}
	}
	return best
}

// giver returns the node with the greatest load that can give one of its shards to node, and the shard, or -1.
func giver(p api.Placement, node int) (int, int) {
	best, gift := -1, -1
	for _, n := range p.Nodes {
		shard := slices.IndexFunc(p.Shards, func(owners []api.Owner) bool { return holds(owners, n) && !holds(owners, node) })
		if shard >= 0 && (best < 0 || Load(p, n) > Load(p, best)) {
			best, gift = n, shard
		}
	}
	return best, gift
}

// transfer makes one node leave a shard, and another one come from it.
func transfer(p *api.Placement, shard, from, to int) {
	disown(p, shard, from)
	own(p, shard, api.Owner{Node: from, State: api.Leaving, From: -1})
	own(p, shard, api.Owner{Node: to, State: api.Initializing, From: from})
}

// own adds an owner of a shard in its place.
func own(p *api.Placement, shard int, o api.Owner) {
	owners := p.Shards[shard]
	i := 0
	for i < len(owners) && owners[i].Node < o.Node {
		i++
	}
	p.Shards[shard] = append(append(owners[:i:i], o), owners[i:]...)
}

// disown removes the owner of a shard that is this node.
func disown(p *api.Placement, shard, node int) {
	p.Shards[shard] = slices.DeleteFunc(p.Shards[shard], func(o api.Owner) bool { return o.Node == node })
}

func without(nodes []int, node int) []int {
	return slices.DeleteFunc(nodes, func(n int) bool { return n == node })
}
