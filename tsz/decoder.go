package tsz

import (
	"thermograph/api"
	"thermograph/bits"
)

// decoder reads points one after the other; it panics with ErrForm where it can't go on.
type decoder struct {
	r      *bits.Reader
	last   api.Point
	step   int
	values column
	stamps column
}

func decode(b []byte) []api.Point {
	count, size := bits.ReadUvarint(b)
	if size == 0 || count > api.MaxPoints {
		panic(api.ErrForm)
	}
	d := decoder{r: bits.NewReader(b[size:])}
	l := make([]api.Point, 0, count)
	for range count {
		l = append(l, d.point(len(l) == 0))
	}
	return l
}

func (d *decoder) point(first bool) api.Point {
	if first {
		d.last = api.Point{T: int(d.get(64)), V: d.get(64), S: d.get(64)}
		d.values.last, d.stamps.last = d.last.V, d.last.S
		return d.last
	}
	d.step += d.change()
	d.last.T += d.step
	d.last.V = d.value(&d.values)
	d.last.S = d.value(&d.stamps)
	return d.last
}

func (d *decoder) change() int {
	ones := 0
	for ones <= len(classes) && d.get(1) == 1 {
		ones++
	}
	if ones == 0 {
		return 0
	}
	if ones > len(classes) {
		return int(d.get(64))
	}
	c := classes[ones-1]
	return int(d.get(c.width)) - c.bias
}

func (d *decoder) value(c *column) uint64 {
	if d.get(1) == 0 {
		return c.last
	}
	if d.get(1) == 1 {
		lead, size := int(d.get(5)), int(d.get(6))+1
		c.win = window{set: true, lead: lead, trail: 64 - lead - size}
	}
	if c.win == (window{}) || c.win.trail < 0 {
		panic(api.ErrForm)
	}
	c.last ^= d.get(c.win.size()) << c.win.trail
	return c.last
}

func (d *decoder) get(n int) uint64 {
	v, ok := d.r.Get(n)
	if !ok {
		panic(api.ErrForm)
	}
	return v
}
