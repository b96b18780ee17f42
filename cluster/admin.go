package cluster

import (
	"thermograph/api"
	"thermograph/placement"
)

// change returns the placement that an event makes of the stored one.
type change func(p api.Placement, e Event) (api.Placement, api.Errno)

// administer changes the stored placement.
func (c *Cluster) administer(e Event) (int, api.Errno) {
	compute, ok := c.admin[e.A]
	if !ok {
		return 0, api.ErrArg
	}
	p, _ := c.store.Get()
	next, err := compute(p, e)
	if err != api.OK {
		return 0, err
	}
	return 0, c.set(next)
}

func (c *Cluster) adInit(p api.Placement, e Event) (api.Placement, api.Errno) {
	if e.B > len(c.members) {
		return api.Placement{}, api.ErrArg
	}
	var nodes []int
	for i := range e.B {
		nodes = append(nodes, i)
	}
	return placement.Init(nodes, c.c.Shards)
}

func (c *Cluster) adAdd(p api.Placement, e Event) (api.Placement, api.Errno) {
	if !c.isNode(e.B) {
		return api.Placement{}, api.ErrArg
	}
	return placement.Add(p, e.B)
}

func (c *Cluster) adRemove(p api.Placement, e Event) (api.Placement, api.Errno) {
	return placement.Remove(p, e.B)
}

func (c *Cluster) adReplace(p api.Placement, e Event) (api.Placement, api.Errno) {
	if !c.isNode(e.C) {
		return api.Placement{}, api.ErrArg
	}
	return placement.Replace(p, e.B, e.C)
}

// set stores the next placement.
func (c *Cluster) set(p api.Placement) api.Errno {
	return c.store.Set(p.Version-1, p)
}
