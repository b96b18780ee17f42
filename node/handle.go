package node

import (
	"thermograph/api"
	"thermograph/peers"
	"thermograph/placement"
	"thermograph/wire"
)

// handler returns what the answer to a request tells, or the error that it reports.
type handler func(m wire.Message, now int) (wire.Message, api.Errno)

// Handle takes a message and returns the answer to it.
func (n *Node) Handle(from int, b []byte, now int) []api.Packet {
	m, err := wire.Decode(b)
	if err != api.OK {
		return nil
	}
	if m.Kind == wire.Paged || m.Kind == wire.Stream {
		n.hear(from, m, now)
		return nil
	}
	handle, ok := n.handlers[m.Kind]
	if !ok {
		return nil
	}
	answer, err := handle(m, now)
	if err == api.ErrDead {
		return nil
	}
	if err != api.OK {
		answer = wire.Message{Err: err}
	}
	answer.Kind, answer.Seq, answer.Epoch = m.Kind+1, m.Seq, n.known.Version
	return n.packets(from, answer)
}

func (n *Node) write(m wire.Message, now int) (wire.Message, api.Errno) {
	number, err := n.admitID(m)
	if err != api.OK {
		return wire.Message{}, err
	}
	if m.P.T < n.cutoff(m.Space, now) || m.P.T > n.horizon(m.Space, now) {
		return wire.Message{}, api.ErrTime
	}
	return wire.Message{}, n.store(m.Space, number, m.ID, m.P)
}

func (n *Node) read(m wire.Message, now int) (wire.Message, api.Errno) {
	number, err := n.admitID(m)
	if err != api.OK {
		return wire.Message{}, err
	}
	kept := api.Range{From: max(m.R.From, n.cutoff(m.Space, now)), To: m.R.To}
	l := n.shards[m.Space][number].Read(m.ID, kept)
	if len(l) > api.MaxPoints {
		return wire.Message{}, api.ErrMany
	}
	return wire.Message{Points: l}, api.OK
}

func (n *Node) metas(m wire.Message, now int) (wire.Message, api.Errno) {
	if err := n.admitPeer(m); err != api.OK {
		return wire.Message{}, err
	}
	l, more := peers.Page(n.shards[m.Space][m.Shard].Metas(m.R), m.Block, m.ID)
	return wire.Message{Metas: l, More: more}, api.OK
}

func (n *Node) block(m wire.Message, now int) (wire.Message, api.Errno) {
	if err := n.admitPeer(m); err != api.OK {
		return wire.Message{}, err
	}
	return wire.Message{Points: n.shards[m.Space][m.Shard].Block(m.ID, m.Block)}, api.OK
}

// admit returns the error for which a request is not admitted.
func (n *Node) admit(space, number, epoch int) api.Errno {
	if space < 0 || space >= len(n.c.Spaces) {
		return api.ErrSpace
	}
	if number < 0 || number >= n.c.Shards {
		return api.ErrShard
	}
	if epoch != n.known.Version {
		return api.ErrEpoch
	}
	if _, ok := placement.Find(n.known, number, n.me); !ok {
		return api.ErrShard
	}
	return api.OK
}

// admitID admits a request for a series, and returns its shard.
func (n *Node) admitID(m wire.Message) (int, api.Errno) {
	if len(m.ID) < 1 || len(m.ID) > api.MaxID {
		return 0, api.ErrID
	}
	number := n.shardOf(m.ID)
	return number, n.admit(m.Space, number, m.Epoch)
}

// admitPeer admits a request for a shard of which the node has all that there is.
func (n *Node) admitPeer(m wire.Message) api.Errno {
	if err := n.admit(m.Space, m.Shard, m.Epoch); err != api.OK {
		return err
	}
	if owner, _ := placement.Find(n.known, m.Shard, n.me); owner.State == api.Initializing {
		return api.ErrBusy
	}
	return api.OK
}

// packets returns the packet with a message, or none if it can't be encoded.
func (n *Node) packets(to int, m wire.Message) []api.Packet {
	b, err := wire.Encode(m)
	if err != api.OK {
		return nil
	}
	return []api.Packet{{From: n.me, To: to, Data: b}}
}
