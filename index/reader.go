package index

import (
	"thermograph/api"
	"thermograph/bits"
)

// reader reads what an index or a summary is made of; after a false it is of no more use.
type reader struct{ rest []byte }

func (r *reader) number() (int, bool) {
	v, size := bits.ReadUvarint(r.rest)
	if size == 0 || v > maxPlace {
		return 0, false
	}
	r.rest = r.rest[size:]
	return int(v), true
}

// text reads the name of a series.
func (r *reader) text() (string, bool) {
	n, ok := r.number()
	if !ok || n < 1 || n > api.MaxID || n > len(r.rest) {
		return "", false
	}
	s := string(r.rest[:n])
	r.rest = r.rest[n:]
	return s, true
}

func (r *reader) entry() (Entry, bool) {
	id, ok1 := r.text()
	off, ok2 := r.number()
	size, ok3 := r.number()
	if !ok1 || !ok2 || !ok3 || len(r.rest) < 4 {
		return Entry{}, false
	}
	e := Entry{ID: id, Off: off, Size: size}
	for _, c := range r.rest[:4] {
		e.Sum = e.Sum<<8 | uint32(c)
	}
	r.rest = r.rest[4:]
	return e, true
}
