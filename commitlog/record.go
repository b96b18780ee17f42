package commitlog

import (
	"thermograph/api"
	"thermograph/bits"
	"thermograph/digest"
)

// Encode returns the length, the checksum and the body of a record.
func Encode(r api.Record) ([]byte, api.Errno) {
	if r.Space < 0 || r.Space >= api.MaxSpaces || r.P.T < 0 || r.P.T > api.MaxTime {
		return nil, api.ErrArg
	}
	if len(r.ID) < 1 || len(r.ID) > api.MaxID {
		return nil, api.ErrID
	}
	var out []byte
	number := func(n int) { out = append(out, bits.Uvarint(nil, uint64(n))...) }
	fixed := func(v uint64, size int) {
		for i := size - 1; i >= 0; i-- {
			out = append(out, byte(v>>(8*i)))
		}
	}
	number(r.Space)
	number(len(r.ID))
	out = append(out, r.ID...)
	number(r.P.T)
	fixed(r.P.V, 8)
	fixed(r.P.S, 8)
	body := out
	out = nil
	number(len(body))
	fixed(uint64(digest.Adler(body)), 4)
	return append(out, body...), api.OK
}

// Decode returns the records at the beginning of b, and the number of their bytes.
func Decode(b []byte) ([]api.Record, int) {
	var records []api.Record
	at := 0
	for {
		r, size := first(b[at:])
		if size == 0 {
			return records, at
		}
		records = append(records, r)
		at += size
	}
}

// first returns the record that b begins with and its length, or 0.
func first(b []byte) (api.Record, int) {
	length, size := bits.ReadUvarint(b)
	rest := b[size:]
	if size == 0 || len(rest) < 4 || length > uint64(len(rest)-4) {
		return api.Record{}, 0
	}
	body := rest[4 : 4+length]
	r, ok := parse(body)
	if !ok || uint64(digest.Adler(body)) != fixed(rest[:4]) {
		return api.Record{}, 0
	}
	return r, size + 4 + len(body)
}

// parse returns the record whose body b is.
func parse(b []byte) (api.Record, bool) {
	var r api.Record
	ok := true
	number := func(most int) int {
		v, size := bits.ReadUvarint(b)
		if size == 0 || v > uint64(most) {
			ok = false
			return 0
		}
		b = b[size:]
		return int(v)
	}
	r.Space = number(api.MaxSpaces - 1)
	n := number(api.MaxID)
	if !ok || n < 1 || n > len(b) {
		return api.Record{}, false
	}
	r.ID, b = string(b[:n]), b[n:]
	r.P.T = number(api.MaxTime)
	if !ok || len(b) != 16 {
		return api.Record{}, false
	}
	r.P.V, r.P.S = fixed(b[:8]), fixed(b[8:])
	return r, true
}

// fixed reads all bytes as one number.
func fixed(b []byte) uint64 {
	var v uint64
	for _, c := range b {
		v = v<<8 | uint64(c)
	}
	return v
}
