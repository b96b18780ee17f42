package kv

import (
	"thermograph/api"
	"thermograph/bits"
	"thermograph/placement"
)

// Encode returns the numbers that make up a placement.
func Encode(p api.Placement) ([]byte, api.Errno) {
	if placement.Check(p) != api.OK {
		return nil, api.ErrForm
	}
	var out []byte
	put := func(n int) { out = append(out, bits.Uvarint(nil, uint64(n))...) }
	put(p.Version)
	put(len(p.Nodes))
	for _, n := range p.Nodes {
		put(n)
	}
	put(len(p.Shards))
	for _, owners := range p.Shards {
		put(len(owners))
		for _, o := range owners {
			put(o.Node)
			put(o.State)
			put(o.From + 1)
		}
	}
	return out, api.OK
}

// Decode returns the placement whose encoding it is.
func Decode(b []byte) (api.Placement, api.Errno) {
	ok := true
	next := func() int {
		n, size := bits.ReadUvarint(b)
		if size == 0 || n > api.MaxTime {
			ok = false
			return 0
		}
		b = b[size:]
		return int(n)
	}
	p := api.Placement{Version: next()}
	for i, n := 0, next(); ok && i < n; i++ {
		p.Nodes = append(p.Nodes, next())
	}
	for i, n := 0, next(); ok && i < n; i++ {
		var owners []api.Owner
		for j, m := 0, next(); ok && j < m; j++ {
			owners = append(owners, api.Owner{Node: next(), State: next(), From: next() - 1})
		}
		p.Shards = append(p.Shards, owners)
	}
	if !ok || len(b) > 0 || placement.Check(p) != api.OK {
		return api.Placement{}, api.ErrForm
	}
	return p, api.OK
}
