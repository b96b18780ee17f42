package bits_test

import (
	"bytes"
	"math"
	"math/rand"
	"testing"

	"thermograph/bits"
)

func want[T comparable](t *testing.T, what string, got, want T) {
	t.Helper()
	if got != want {
		t.Errorf("%s: got %v, want %v", what, got, want)
	}
}

func wantBytes(t *testing.T, what string, got []byte, want ...byte) {
	t.Helper()
	if !bytes.Equal(got, want) {
		t.Errorf("%s: got %x, want %x", what, got, want)
	}
}

func get(t *testing.T, r *bits.Reader, n int, v uint64, ok bool) {
	t.Helper()
	if got, is := r.Get(n); got != v || is != ok {
		t.Errorf("Get(%d): got %x, %v, want %x, %v", n, got, is, v, ok)
	}
}

// P3.1

func TestWriter(t *testing.T) {
	w := bits.NewWriter()
	want(t, "Len", w.Len(), 0)
	wantBytes(t, "no bits", w.Bytes())
	w.Put(5, 3)
	want(t, "Len", w.Len(), 3)
	wantBytes(t, "101", w.Bytes(), 0xa0)
	w.Put(1, 2)
	wantBytes(t, "10101", w.Bytes(), 0xa8)
	w.Put(0, 3)
	want(t, "Len", w.Len(), 8)
	wantBytes(t, "a whole byte", w.Bytes(), 0xa8)
	w.Put(1, 1)
	wantBytes(t, "nine bits", w.Bytes(), 0xa8, 0x80)
}

func TestPutWidths(t *testing.T) {
	w := bits.NewWriter()
	w.Put(math.MaxUint64, 0)
	w.Put(math.MaxUint64, -1)
	w.Put(math.MaxUint64, math.MinInt)
	want(t, "no bits", w.Len(), 0)
	w.Put(0x123456789abcdef0, 65)
	want(t, "64 bits", w.Len(), 64)
	w.Put(math.MaxUint64, 1)
	w.Put(0, math.MaxInt)
	want(t, "129 bits", w.Len(), 129)
	wantBytes(t, "all", w.Bytes(), 0x12, 0x34, 0x56, 0x78, 0x9a, 0xbc, 0xde, 0xf0, 0x80, 0, 0, 0, 0, 0, 0, 0, 0)
}

func TestPutTakesTheLowestBits(t *testing.T) {
	w := bits.NewWriter()
	w.Put(0xfffffffffffffff2, 4)
	w.Put(0xf0, 4)
	w.Put(0x1ff00, 9)
	wantBytes(t, "bits", w.Bytes(), 0x20, 0x80, 0x00)
}

func TestBytesAreApart(t *testing.T) {
	w := bits.NewWriter()
	w.Put(0xff, 8)
	b := w.Bytes()
	b[0] = 0
	_ = append(b, 7)
	w.Put(0, 1)
	wantBytes(t, "bytes", w.Bytes(), 0xff, 0x00)
	wantBytes(t, "bytes before", b, 0x00)
}

// P3.2

func TestReader(t *testing.T) {
	r := bits.NewReader([]byte{0xa8})
	want(t, "Left", r.Left(), 8)
	get(t, r, 3, 5, true)
	get(t, r, 2, 1, true)
	want(t, "Left", r.Left(), 3)
	get(t, r, 4, 0, false)
	want(t, "Left", r.Left(), 3)
	get(t, r, 3, 0, true)
	get(t, r, 1, 0, false)
	get(t, r, 0, 0, true)
	want(t, "Left", r.Left(), 0)
}

func TestGetWidths(t *testing.T) {
	b := []byte{0x12, 0x34, 0x56, 0x78, 0x9a, 0xbc, 0xde, 0xf0, 0xff}
	r := bits.NewReader(b)
	get(t, r, -5, 0, true)
	get(t, r, math.MinInt, 0, true)
	want(t, "Left", r.Left(), 72)
	get(t, r, math.MaxInt, 0x123456789abcdef0, true)
	get(t, r, 65, 0, false)
	get(t, r, 9, 0, false)
	get(t, r, 8, 0xff, true)
	r = bits.NewReader(b)
	get(t, r, 4, 1, true)
	get(t, r, 64, 0x23456789abcdef0f, true)
	get(t, r, 4, 15, true)
	get(t, bits.NewReader(nil), 1, 0, false)
	get(t, bits.NewReader(nil), 0, 0, true)
}

func TestReaderKeepsItsBytes(t *testing.T) {
	b := []byte{0xff}
	r := bits.NewReader(b)
	b[0] = 0
	get(t, r, 8, 0xff, true)
}

// P3.3

func TestUvarint(t *testing.T) {
	for _, c := range []struct {
		v uint64
		b []byte
	}{
		{0, []byte{0}},
		{1, []byte{1}},
		{127, []byte{0x7f}},
		{128, []byte{0x80, 1}},
		{300, []byte{0xac, 2}},
		{1<<14 - 1, []byte{0xff, 0x7f}},
		{1 << 14, []byte{0x80, 0x80, 1}},
		{1 << 63, []byte{0x80, 0x80, 0x80, 0x80, 0x80, 0x80, 0x80, 0x80, 0x80, 1}},
		{1<<63 - 1, []byte{0xff, 0xff, 0xff, 0xff, 0xff, 0xff, 0xff, 0xff, 0x7f}},
		{math.MaxUint64, []byte{0xff, 0xff, 0xff, 0xff, 0xff, 0xff, 0xff, 0xff, 0xff, 1}},
	} {
		wantBytes(t, "Uvarint", bits.Uvarint(nil, c.v), c.b...)
		wantBytes(t, "after others", bits.Uvarint([]byte{9, 8}, c.v), append([]byte{9, 8}, c.b...)...)
		for _, rest := range [][]byte{nil, {0}, {0xff, 0xff}} {
			v, n := bits.ReadUvarint(append(bytes.Clone(c.b), rest...))
			want(t, "ReadUvarint", v, c.v)
			want(t, "length", n, len(c.b))
		}
		for i := range c.b {
			v, n := bits.ReadUvarint(c.b[:i])
			want(t, "cut off", v, 0)
			want(t, "cut off", n, 0)
		}
	}
}

func TestUvarintLeavesItsArgument(t *testing.T) {
	b := append(make([]byte, 0, 20), 1, 2)
	c := bits.Uvarint(b, 300)
	wantBytes(t, "spare bytes", b[:5], 1, 2, 0, 0, 0)
	c[0] = 9
	wantBytes(t, "bytes", b, 1, 2)
}

func TestReadUvarintOfOtherBytes(t *testing.T) {
	for _, b := range [][]byte{
		{}, {0x80}, {0x80, 0}, {0x81, 0}, {0xff, 0x80, 0}, {0xff, 0xff},
		{0xff, 0xff, 0xff, 0xff, 0xff, 0xff, 0xff, 0xff, 0xff, 2},
		{0x80, 0x80, 0x80, 0x80, 0x80, 0x80, 0x80, 0x80, 0x80, 0},
		{0x80, 0x80, 0x80, 0x80, 0x80, 0x80, 0x80, 0x80, 0x80, 0x81, 0},
		{0xff, 0xff, 0xff, 0xff, 0xff, 0xff, 0xff, 0xff, 0xff, 0x80, 1},
		{0xff, 0xff, 0xff, 0xff, 0xff, 0xff, 0xff, 0xff, 0xff, 0xff, 1},
		{0x80, 0x80, 0x80, 0x80, 0x80, 0x80, 0x80, 0x80, 0x80, 0x80, 0x80, 1},
	} {
		if v, n := bits.ReadUvarint(b); v != 0 || n != 0 {
			t.Errorf("ReadUvarint(%x): got %d, %d", b, v, n)
		}
	}
}

// P3.4

func TestZigZag(t *testing.T) {
	for _, c := range []struct {
		n int
		v uint64
	}{
		{0, 0}, {-1, 1}, {1, 2}, {-2, 3}, {2, 4}, {300, 600}, {-300, 599},
		{math.MaxInt, math.MaxUint64 - 1}, {math.MinInt, math.MaxUint64}, {1 << 62, 1 << 63}, {-1 << 62, 1<<63 - 1},
	} {
		want(t, "Zig", bits.Zig(c.n), c.v)
		want(t, "Zag", bits.Zag(c.v), c.n)
	}
}

// P3.5

func TestWhatIsWrittenIsRead(t *testing.T) {
	r := rand.New(rand.NewSource(1))
	for range 300 {
		w := bits.NewWriter()
		var plain []byte // a bit each
		var vs []uint64
		var ns []int
		for range r.Intn(40) {
			v, n := r.Uint64(), r.Intn(65)
			w.Put(v, n)
			for i := n - 1; i >= 0; i-- {
				plain = append(plain, byte(v>>i&1))
			}
			if n < 64 {
				v &= 1<<n - 1
			}
			vs, ns = append(vs, v), append(ns, n)
		}
		want(t, "Len", w.Len(), len(plain))
		b := w.Bytes()
		want(t, "bytes", len(b), (len(plain)+7)/8)
		for i := range 8 * len(b) {
			bit := byte(0)
			if i < len(plain) {
				bit = plain[i]
			}
			want(t, "bit", b[i/8]>>(7-i%8)&1, bit)
		}
		rd := bits.NewReader(b)
		for i := range vs {
			get(t, rd, ns[i], vs[i], true)
		}
		want(t, "Left", rd.Left(), 8*len(b)-len(plain))
	}
}

func TestNumbersAreEncodedInOneWay(t *testing.T) {
	r := rand.New(rand.NewSource(2))
	for range 20000 {
		v := r.Uint64() >> r.Intn(64)
		got, n := bits.ReadUvarint(bits.Uvarint(nil, v))
		want(t, "number", got, v)
		want(t, "length", n, len(bits.Uvarint(nil, v)))
		want(t, "Zig of Zag", bits.Zig(bits.Zag(v)), v)
		b := make([]byte, 1+r.Intn(11))
		for i := range b {
			b[i] = byte(r.Intn(4)) | byte(r.Intn(2))<<7
		}
		if got, n := bits.ReadUvarint(b); n > 0 {
			wantBytes(t, "encoding", bits.Uvarint(nil, got), b[:n]...)
		}
	}
}
