package cluster

import (
	"thermograph/api"
	"thermograph/disk"
	"thermograph/placement"
	"thermograph/session"
)

// take delivers a packet.
func (c *Cluster) take(e Event) (int, api.Errno) {
	p, err := c.net.Take(e.A)
	if err != api.OK {
		return 0, err
	}
	if n := c.running(p.To); n != nil {
		c.send(n.Handle(p.From, p.Data, c.members[p.To].clock))
	} else if s := p.To - session.Base; c.isSession(s) {
		c.sessions[s].Hear(p.From, p.Data)
	}
	return 0, api.OK
}

func (c *Cluster) drop(e Event) (int, api.Errno)   { return 0, c.net.Drop(e.A) }
func (c *Cluster) double(e Event) (int, api.Errno) { return 0, c.net.Double(e.A) }

// tick lets a node's clock go on, and the node do what time has come for.
func (c *Cluster) tick(m *member, e Event) api.Errno {
	m.clock += min(max(e.B, 0), api.MaxTime-m.clock)
	if m.node == nil {
		return api.OK
	}
	packets, err := m.node.Tick(m.clock)
	c.send(packets)
	return err
}

func (c *Cluster) crash(m *member, e Event) api.Errno {
	if m.node == nil {
		return api.ErrNone
	}
	m.disk.Crash(e.B, e.C)
	return api.OK
}

func (c *Cluster) cut(m *member, e Event) api.Errno {
	m.disk.Cut(e.B, e.C, 0)
	return api.OK
}

// start starts a node that is down again.
func (c *Cluster) start(m *member, e Event) api.Errno {
	if m.node != nil {
		return api.ErrBusy
	}
	if m.lost {
		return api.ErrNone
	}
	m.disk.Power()
	m.life++
	if err := c.open(m, e.A); err != api.OK {
		return err
	}
	if p, ok := c.store.Get(); ok {
		m.node.Learn(p)
	}
	return api.OK
}

// lose takes a node away for good, with all that is on its disk.
func (c *Cluster) lose(m *member, e Event) api.Errno {
	if m.lost {
		return api.ErrNone
	}
	m.node = nil
	m.lost = true
	m.disk = disk.New(0)
	return api.OK
}

// ready lets a node have the first shard that it has brought in.
func (c *Cluster) ready(m *member, e Event) api.Errno {
	shards := c.Ready(e.A)
	if len(shards) == 0 {
		return api.ErrNone
	}
	p, _ := c.store.Get()
	if m.node.Epoch() != p.Version {
		return api.ErrStale
	}
	next, err := placement.Done(p, shards[0], e.A)
	if err != api.OK {
		return err
	}
	return c.set(next)
}

func (c *Cluster) repair(m *member, e Event) api.Errno {
	if m.node == nil {
		return api.ErrNone
	}
	if e.V > maxPeer {
		return api.ErrNodes
	}
	return m.node.Repair(e.B, e.C, int(e.V))
}

// learn tells a node or a session of the stored placement.
func (c *Cluster) learn(e Event) (int, api.Errno) {
	s := e.A - session.Base
	if !c.isNode(e.A) && !c.isSession(s) {
		return 0, api.ErrArg
	}
	p, ok := c.store.Get()
	if !ok || c.isNode(e.A) && !c.Up(e.A) {
		return 0, api.ErrNone
	}
	if c.isNode(e.A) {
		c.members[e.A].node.Learn(p)
	} else {
		c.sessions[s].Learn(p)
	}
	return 0, api.OK
}

func (c *Cluster) write(e Event) (int, api.Errno) {
	if !c.isSession(e.A) {
		return 0, api.ErrArg
	}
	op, packets, err := c.sessions[e.A].Write(e.B, e.ID, e.C, e.V)
	c.send(packets)
	return op, err
}

func (c *Cluster) read(e Event) (int, api.Errno) {
	if !c.isSession(e.A) {
		return 0, api.ErrArg
	}
	op, packets, err := c.sessions[e.A].Read(e.B, e.ID, e.R)
	c.send(packets)
	return op, err
}

func (c *Cluster) resend(e Event) (int, api.Errno) {
	if !c.isSession(e.A) {
		return 0, api.ErrArg
	}
	c.send(c.sessions[e.A].Resend(e.B))
	return 0, api.OK
}
