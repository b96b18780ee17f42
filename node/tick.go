package node

import (
	"thermograph/api"
	"thermograph/merge"
	"thermograph/peers"
	"thermograph/wire"
)

// fetch is what the node asks of a peer for the current job.
type fetch struct {
	*peers.Fetch
	peer  int
	heard bool // an answer, since the last request
}

// Tick removes and stores what time has come for, and returns the next request.
func (n *Node) Tick(now int) ([]api.Packet, api.Errno) {
	for _, shards := range n.shards {
		for _, s := range shards {
			if _, err := s.Tick(now); err != api.OK {
				return nil, err
			}
		}
	}
	if n.logged && n.Buffered() == 0 { // all that the log has lies in volumes
		if err := n.log.Drop(n.log.Rotate()); err != api.OK {
			return nil, err
		}
		n.logged = false
	}
	return n.request(), api.OK
}

// request returns the current request for the current job.
func (n *Node) request() []api.Packet {
	j := n.current()
	if j == nil {
		n.fetch = nil
		return nil
	}
	if n.fetch == nil || n.fetch.Err() != api.OK || !n.fetch.heard {
		n.fetch = n.newFetch(j)
	}
	if n.fetch == nil {
		return nil
	}
	m, _ := n.fetch.Next()
	n.fetch.heard = false
	n.seq = m.Seq + 1
	return n.packets(n.fetch.peer, m)
}

// newFetch returns a fetch from the peer whose turn it is, or nil.
func (n *Node) newFetch(j job) *fetch {
	wanted := j.wanted()
	if len(wanted) == 0 {
		return nil
	}
	peer := wanted[n.turn%len(wanted)]
	n.turn++
	space, number := j.place()
	all := api.Range{From: 0, To: wholeTime}
	f := peers.New(space, number, n.c.Spaces[space].Block, all, n.known.Version, n.seq)
	return &fetch{Fetch: f, peer: peer}
}

// hear takes what may be an answer to the current request.
func (n *Node) hear(from int, m wire.Message, now int) {
	f := n.fetch
	if f == nil || from != f.peer || m.Epoch != n.known.Version || !f.Hear(m) {
		return
	}
	f.heard = true
	if !f.Done() {
		return
	}
	n.fetch = nil
	j := n.current()
	l, ok := j.give(f.peer, f.Series())
	if !ok {
		return
	}
	if n.keep(j, l, now) != api.OK {
		j.restart()
		return
	}
	j.finish()
	n.end()
}

// keep stores what is new to the node.
func (n *Node) keep(j job, l []api.Series, now int) api.Errno {
	space, number := j.place()
	for _, x := range l {
		have := map[int]api.Point{}
		for _, p := range n.shards[space][number].Read(x.ID, api.Range{From: 0, To: wholeTime}) {
			have[p.T] = p
		}
		for _, p := range x.Points {
			old, ok := have[p.T]
			if n.past(space, p.T, now) || ok && !merge.Wins(p, old) {
				continue
			}
			if err := n.store(space, number, x.ID, p); err != api.OK {
				return err
			}
		}
	}
	return api.OK
}
