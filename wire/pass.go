package wire

import "thermograph/api"

const maxNumber = 255 // of a namespace, a shard, an error

// coder passes over the fields of a message, and writes or reads them.
// It panics with an api.Errno at a field that may not be.
type coder interface {
	number(v *int, most int)
	count(n *int, most int)
	fixed(v *uint64, size int)
	text(s *string)
	flag(v *bool)
}

// pass passes over all fields of a message after its kind.
func pass(c coder, m *Message) {
	c.number(&m.Seq, api.MaxTime)
	c.number(&m.Epoch, api.MaxTime)
	switch m.Kind {
	case Write, Read:
		c.number(&m.Space, maxNumber)
		c.text(&m.ID)
	case Metas, Block:
		c.number(&m.Space, maxNumber)
		c.number(&m.Shard, maxNumber)
	default:
		c.number((*int)(&m.Err), maxNumber)
	}
	switch m.Kind {
	case Write:
		passPoint(c, &m.P)
	case Read:
		passRange(c, &m.R)
	case Metas:
		passRange(c, &m.R)
		fallthrough
	case Block:
		c.number(&m.Block, api.MaxTime)
		c.text(&m.ID)
	case Paged:
		c.flag(&m.More)
		passList(c, &m.Metas, api.PageSize, passMeta)
	case Told, Stream:
		passList(c, &m.Points, api.MaxPoints, passPoint)
	}
}

func passRange(c coder, r *api.Range) {
	c.number(&r.From, api.MaxTime+1)
	c.number(&r.To, api.MaxTime+1)
}

func passPoint(c coder, p *api.Point) {
	c.number(&p.T, api.MaxTime)
	c.fixed(&p.V, 8)
	c.fixed(&p.S, 8)
}

func passMeta(c coder, m *api.Meta) {
	c.text(&m.ID)
	c.number(&m.Block, api.MaxTime)
	c.number(&m.Count, api.MaxPoints)
	sum := uint64(m.Sum)
	c.fixed(&sum, 4)
	m.Sum = uint32(sum)
}

// passList passes over a list's length and its items; the items are copies, as a writer's belong to the caller.
func passList[T any](c coder, l *[]T, most int, item func(coder, *T)) {
	n := len(*l)
	c.count(&n, most)
	items := make([]T, n)
	copy(items, *l)
	for i := range items {
		item(c, &items[i])
	}
	*l = items
}
