package wire

import (
	"thermograph/api"
	"thermograph/bits"
)

// encoder writes fields.
type encoder struct{ out []byte }

func (e *encoder) number(v *int, most int) {
	if *v < 0 || *v > most {
		panic(api.ErrArg)
	}
	e.out = append(e.out, bits.Uvarint(nil, uint64(*v))...)
}

func (e *encoder) count(n *int, most int) {
	if *n > most {
		panic(api.ErrMany)
	}
	e.number(n, most)
}

func (e *encoder) fixed(v *uint64, size int) {
	for i := size - 1; i >= 0; i-- {
		e.out = append(e.out, byte(*v>>(8*i)))
	}
}

func (e *encoder) text(s *string) {
	if len(*s) > api.MaxID {
		panic(api.ErrID)
	}
	n := len(*s)
	e.number(&n, api.MaxID)
	e.out = append(e.out, *s...)
}

func (e *encoder) flag(v *bool) {
	if *v {
		e.out = append(e.out, 1)
	} else {
		e.out = append(e.out, 0)
	}
}

// decoder reads fields.
type decoder struct{ rest []byte }

func (d *decoder) number(v *int, most int) {
	n, size := bits.ReadUvarint(d.rest)
	if size == 0 || n > uint64(most) {
		panic(api.ErrFrame)
	}
	d.rest = d.rest[size:]
	*v = int(n)
}

func (d *decoder) count(n *int, most int) { d.number(n, most) }

func (d *decoder) fixed(v *uint64, size int) {
	*v = 0
	for _, c := range d.take(size) {
		*v = *v<<8 | uint64(c)
	}
}

func (d *decoder) text(s *string) {
	var n int
	d.number(&n, api.MaxID)
	*s = string(d.take(n))
}

func (d *decoder) flag(v *bool) {
	var n int
	d.number(&n, 1)
	*v = n == 1
}

// take reads the next n bytes.
func (d *decoder) take(n int) []byte {
	if n > len(d.rest) {
		panic(api.ErrFrame)
	}
	b := d.rest[:n]
	d.rest = d.rest[n:]
	return b
}
