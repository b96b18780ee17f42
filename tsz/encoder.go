package tsz

import (
	mathbits "math/bits"

	"thermograph/api"
	"thermograph/bits"
)

// encoder writes points one after the other.
type encoder struct {
	w      *bits.Writer
	t      int // of the last point
	step   int // between the last two
	values column
	stamps column
}

func (e *encoder) point(p api.Point, first bool) {
	if first {
		e.w.Put(uint64(p.T), 64)
		e.w.Put(p.V, 64)
		e.w.Put(p.S, 64)
		e.values.last, e.stamps.last = p.V, p.S
	} else {
		step := p.T - e.t
		e.change(step - e.step)
		e.step = step
		e.values.write(e.w, p.V)
		e.stamps.write(e.w, p.S)
	}
	e.t = p.T
}

// change writes by how much the step has changed.
func (e *encoder) change(x int) {
	if x == 0 {
		e.w.Put(0, 1)
		return
	}
	for i, c := range classes {
		if x >= -c.bias && x <= c.bias+1 {
			e.w.Put(1<<(i+2)-2, i+2)
			e.w.Put(uint64(x+c.bias), c.width)
			return
		}
	}
	e.w.Put(0b1111, 4)
	e.w.Put(uint64(x), 64)
}

// write writes the difference between v and the last value.
func (c *column) write(w *bits.Writer, v uint64) {
	y := v ^ c.last
	c.last = v
	if y == 0 {
		w.Put(0, 1)
		return
	}
	own := window{set: true, lead: min(mathbits.LeadingZeros64(y), 31), trail: mathbits.TrailingZeros64(y)}
	if c.win != (window{}) && own.lead >= c.win.lead && own.trail >= c.win.trail {
		w.Put(0b10, 2)
	} else {
		w.Put(0b11, 2)
		w.Put(uint64(own.lead), 5)
		w.Put(uint64(own.size()-1), 6)
		c.win = own
	}
	w.Put(y>>c.win.trail, c.win.size())
}

// size returns the number of bits inside the window.
func (w window) size() int { return 64 - w.lead - w.trail }
