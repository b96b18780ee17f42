package placement

import (
	"slices"

	"thermograph/api"
)

// Check reports whether a placement is valid.
func Check(p api.Placement) api.Errno {
	if p.Version < 1 || p.Version > api.MaxTime || !nodesValid(p.Nodes) || len(p.Shards) < 1 || len(p.Shards) > api.MaxShards {
		return api.ErrForm
	}
	for _, owners := range p.Shards {
		if !ownersValid(owners, p.Nodes) {
			return api.ErrForm
		}
	}
	return api.OK
}

// nodesValid reports whether there are enough nodes, in increasing order.
func nodesValid(nodes []int) bool {
	for i, n := range nodes {
		if n < 0 || n >= api.MaxNodes || i > 0 && n <= nodes[i-1] {
			return false
		}
	}
	return len(nodes) >= api.Copies
}

// ownersValid reports whether a shard may have these owners.
func ownersValid(owners []api.Owner, nodes []int) bool {
	holders := 0
	for i, o := range owners {
		if o.Node < 0 || o.Node >= api.MaxNodes || i > 0 && o.Node <= owners[i-1].Node || !ownerValid(owners, o) {
			return false
		}
		if o.State == api.Leaving {
			continue
		}
		if !slices.Contains(nodes, o.Node) {
			return false
		}
		holders++
	}
	return holders == api.Copies
}

// ownerValid reports whether an owner goes with the others of its shard.
func ownerValid(owners []api.Owner, o api.Owner) bool {
	switch o.State {
	case api.Available:
		return o.From == -1
	case api.Initializing:
		source, ok := search(owners, func(x api.Owner) bool { return x.Node == o.From })
		return ok && source.State == api.Leaving
	case api.Leaving:
		heirs := 0
		for _, x := range owners {
			if x.State == api.Initializing && x.From == o.Node {
				heirs++
			}
		}
		return o.From == -1 && heirs == 1
	}
	return false
}
