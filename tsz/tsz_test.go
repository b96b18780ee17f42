package tsz_test

import (
	"bytes"
	"fmt"
	"hash/adler32"
	"math"
	"math/bits"
	"math/rand"
	"slices"
	"strings"
	"testing"

	"thermograph/api"
	"thermograph/tsz"
)

func want[T comparable](t *testing.T, what string, got, want T) {
	t.Helper()
	if got != want {
		t.Errorf("%s: got %v, want %v", what, got, want)
	}
}

// steady is a list of n points, 60 apart, with one value and one stamp.
func steady(n int) []api.Point {
	var l []api.Point
	for i := range n {
		l = append(l, api.Point{T: 60 * i, V: 7, S: 8})
	}
	return l
}

// plain encodes a list by the words of the document, as a text of bits.
func plain(l []api.Point) []byte {
	var s strings.Builder
	step := 0
	var wins [2]string // "lead trail"
	for i, p := range l {
		if i == 0 {
			fmt.Fprintf(&s, "%064b%064b%064b", uint64(p.T), p.V, p.S)
			continue
		}
		q := l[i-1]
		x := p.T - q.T - step
		step = p.T - q.T
		switch {
		case x == 0:
			s.WriteString("0")
		case x >= -63 && x <= 64:
			fmt.Fprintf(&s, "10%07b", x+63)
		case x >= -255 && x <= 256:
			fmt.Fprintf(&s, "110%09b", x+255)
		case x >= -2047 && x <= 2048:
			fmt.Fprintf(&s, "1110%012b", x+2047)
		default:
			fmt.Fprintf(&s, "1111%064b", uint64(x))
		}
		for j, y := range []uint64{p.V ^ q.V, p.S ^ q.S} {
			if y == 0 {
				s.WriteString("0")
				continue
			}
			lead, trail := min(31, bits.LeadingZeros64(y)), bits.TrailingZeros64(y)
			all := fmt.Sprintf("%064b", y)
			var wl, wt int
			if n, _ := fmt.Sscan(wins[j], &wl, &wt); n == 2 && lead >= wl && trail >= wt {
				s.WriteString("10" + all[wl:64-wt])
				continue
			}
			fmt.Fprintf(&s, "11%05b%06b%s", lead, 64-lead-trail-1, all[lead:64-trail])
			wins[j] = fmt.Sprint(lead, trail)
		}
	}
	out := []byte{byte(len(l))}
	if len(l) > 127 {
		out = []byte{byte(len(l)) | 0x80, byte(len(l) >> 7)}
	}
	all := s.String()
	for len(all)%8 > 0 {
		all += "0"
	}
	for i := 0; i < len(all); i += 8 {
		var b byte
		fmt.Sscanf(all[i:i+8], "%b", &b)
		out = append(out, b)
	}
	return out
}

// P5.1

func TestCheck(t *testing.T) {
	at := func(ts ...int) []api.Point {
		var l []api.Point
		for _, x := range ts {
			l = append(l, api.Point{T: x})
		}
		return l
	}
	for _, c := range []struct {
		l   []api.Point
		err api.Errno
	}{
		{nil, api.OK},
		{at(0), api.OK},
		{at(0, 1, api.MaxTime), api.OK},
		{at(-1), api.ErrArg},
		{at(math.MinInt), api.ErrArg},
		{at(api.MaxTime + 1), api.ErrArg},
		{at(math.MaxInt), api.ErrArg},
		{at(5, 5), api.ErrOrder},
		{at(5, 4), api.ErrOrder},
		{at(5, 4, -1), api.ErrOrder},
		{at(5, -1), api.ErrArg},
		{at(5, -1, 5), api.ErrArg},
		{at(5, api.MaxTime+1, 5), api.ErrArg},
		{steady(api.MaxPoints), api.OK},
		{steady(api.MaxPoints + 1), api.ErrMany},
		{make([]api.Point, api.MaxPoints+1), api.ErrMany},
		{make([]api.Point, api.MaxPoints), api.ErrOrder},
	} {
		want(t, "Check", tsz.Check(c.l), c.err)
		b, err := tsz.Encode(c.l)
		want(t, "Encode", err, c.err)
		sum, err := tsz.Sum(c.l)
		want(t, "Sum", err, c.err)
		if c.err != api.OK && (len(b) > 0 || sum != 0) {
			t.Error("a result beside an error:", b, sum)
		}
	}
}

// P5.2

func TestEncodeFirstPoint(t *testing.T) {
	b, err := tsz.Encode(nil)
	want(t, "no points", err, api.OK)
	want(t, "no points", fmt.Sprintf("%x", b), "00")
	b, _ = tsz.Encode([]api.Point{{T: 5, V: 1, S: 2}})
	want(t, "a point", fmt.Sprintf("%x", b), "01000000000000000500000000000000010000000000000002")
	b, _ = tsz.Encode([]api.Point{{T: api.MaxTime, V: math.MaxUint64, S: 1 << 63}})
	want(t, "a point", fmt.Sprintf("%x", b), "010000010000000000ffffffffffffffff8000000000000000")
}

func TestEncodeTimes(t *testing.T) {
	b, _ := tsz.Encode(steady(10))
	want(t, "ten points", len(b), 1+24+5) // 11 bits for the second, three for each further one: 35
	const base = 100000
	for _, c := range []struct {
		x    int
		bits string
	}{
		{0, "0"},
		{1, "101000000"}, {-1, "100111110"}, {-63, "100000000"}, {64, "101111111"},
		{-64, "110010111111"}, {65, "110101000000"}, {-255, "110000000000"}, {256, "110111111111"},
		{-256, "1110011011111111"}, {257, "1110100100000000"}, {-2047, "1110000000000000"}, {2048, "1110111111111111"},
		{-2048, "1111" + fmt.Sprintf("%064b", uint64(math.MaxUint64-2047))}, {2049, "1111" + fmt.Sprintf("%064b", 2049)},
	} {
		l := []api.Point{{T: 0}, {T: base}, {T: 2*base + c.x}}
		b, err := tsz.Encode(l)
		want(t, "Encode", err, api.OK)
		s := ""
		for _, x := range b[25:] {
			s += fmt.Sprintf("%08b", x)
		}
		s = s[4+64+2:]
		want(t, "X "+fmt.Sprint(c.x), strings.TrimRight(s, "0"), strings.TrimRight(c.bits, "0"))
		if len(s) < len(c.bits) || len(s) > len(c.bits)+9 {
			t.Errorf("X %d: %d bits", c.x, len(s))
		}
	}
}

func TestEncodeValues(t *testing.T) {
	for _, vs := range [][]uint64{
		{0, 1}, {0, 1 << 63}, {0, math.MaxUint64}, {5, 5, 5},
		{0, 0xff00, 0xf000, 0x1000},            // windows that hold the next ones
		{0, 0x0ff0, 0x0ff0 ^ 0x0010, 0x1fffff}, // and one that does not
		{0, 1 << 32, 0, 1 << 33, 1 << 33, 1},   // at most 31 leading zero bits
		{0, 3, 2, 0, 1, 0, 1 << 63, 1},
		{0, 1<<63 | 1, 0, 2, 8, math.MaxUint64},
		{0, 1 << 40, 1 << 41, 1<<41 + 1, 1<<41 + 3},
	} {
		var both, values, stamps []api.Point
		for i, v := range vs {
			values = append(values, api.Point{T: i, V: v})
			stamps = append(stamps, api.Point{T: i, S: v})
			both = append(both, api.Point{T: i, V: v, S: ^v})
		}
		for _, l := range [][]api.Point{values, stamps, both} {
			b, err := tsz.Encode(l)
			want(t, "Encode", err, api.OK)
			want(t, "bytes", fmt.Sprintf("%x", b), fmt.Sprintf("%x", plain(l)))
		}
	}
}

// sample is a list with changes of all sizes.
func sample(r *rand.Rand) []api.Point {
	var l []api.Point
	p := api.Point{T: r.Intn(1 << r.Intn(39)), V: r.Uint64(), S: r.Uint64() >> r.Intn(64)}
	step := 1
	n := r.Intn(20)
	if r.Intn(10) == 0 {
		n = r.Intn(api.MaxPoints + 1)
	}
	for range n {
		l = append(l, p)
		if r.Intn(2) == 0 {
			step = max(1, step+r.Intn(1<<r.Intn(14))-r.Intn(1<<r.Intn(14)))
		}
		p.T += step
		if r.Intn(3) > 0 {
			p.V ^= r.Uint64() >> r.Intn(64) << r.Intn(64)
		}
		if r.Intn(3) > 0 {
			p.S ^= r.Uint64() >> r.Intn(64) << r.Intn(64)
		}
	}
	return l
}

func TestEncodeAsTheDocumentSays(t *testing.T) {
	r := rand.New(rand.NewSource(1))
	for range 300 {
		l := sample(r)
		b, err := tsz.Encode(l)
		want(t, "Encode", err, api.OK)
		if !bytes.Equal(b, plain(l)) {
			t.Fatalf("%v: got %x, want %x", l, b, plain(l))
		}
	}
}

// P5.3 and P5.4

func TestDecode(t *testing.T) {
	r := rand.New(rand.NewSource(2))
	lists := [][]api.Point{nil, steady(1), steady(api.MaxPoints), {{T: 0}, {T: api.MaxTime}}, {{T: 0}, {T: 1}, {T: api.MaxTime}}}
	for range 300 {
		lists = append(lists, sample(r))
	}
	for _, l := range lists {
		b, _ := tsz.Encode(l)
		keep := bytes.Clone(b)
		got, err := tsz.Decode(b)
		if err != api.OK || !slices.Equal(got, l) {
			t.Fatalf("got %v, %v, want %v", got, err, l)
		}
		if !bytes.Equal(b, keep) {
			t.Fatal("the bytes have changed")
		}
	}
}

func refused(t *testing.T, what string, b []byte) {
	t.Helper()
	if l, err := tsz.Decode(b); err != api.ErrForm || len(l) > 0 {
		t.Errorf("%s: %x: got %v, %v", what, b, l, err)
	}
}

func TestDecodeRefusesCutAndLongerBytes(t *testing.T) {
	r := rand.New(rand.NewSource(3))
	for range 60 {
		b, _ := tsz.Encode(sample(r))
		for i := range b {
			refused(t, "cut", b[:i])
		}
		refused(t, "longer", append(bytes.Clone(b), 0))
		refused(t, "longer", append(bytes.Clone(b), 0x80))
	}
}

// packed is a count and bits.
func packed(count byte, s string) []byte {
	out := []byte{count}
	for len(s)%8 > 0 {
		s += "0"
	}
	for i := 0; i < len(s); i += 8 {
		var b byte
		fmt.Sscanf(s[i:i+8], "%b", &b)
		out = append(out, b)
	}
	return out
}

func TestDecodeRefusesOtherForms(t *testing.T) {
	first := fmt.Sprintf("%064b%064b%064b", 5, 1, 2)
	one := "10" + fmt.Sprintf("%07b", 1+63) // the step 1
	good := packed(2, first+one+"00")
	if _, err := tsz.Decode(good); err != api.OK {
		t.Fatal("the form itself is refused")
	}
	for what, s := range map[string]string{
		"a step of 0":               first + "0" + "00",
		"a step back":               first + "10" + fmt.Sprintf("%07b", 62) + "00",
		"0 in seven bits":           first + one + "00" + "10" + fmt.Sprintf("%07b", 63) + "00",
		"1 in nine bits":            first + "110" + fmt.Sprintf("%09b", 1+255) + "00",
		"1 in twelve bits":          first + "1110" + fmt.Sprintf("%012b", 1+2047) + "00",
		"1 in 64 bits":              first + "1111" + fmt.Sprintf("%064b", 1) + "00",
		"a step out of range":       first + "1111" + fmt.Sprintf("%064b", uint64(1)<<63) + "00",
		"a time out of range":       first + "1111" + fmt.Sprintf("%064b", api.MaxTime) + "00",
		"a window that is not set":  first + one + "10" + strings.Repeat("1", 64) + "0",
		"a window of all bits":      first + one + "11" + "00000" + "111111" + strings.Repeat("0", 63) + "1" + "0",
		"leading zeros inside":      first + one + "11" + "00111" + "000001" + "01" + "0",
		"trailing zeros inside":     first + one + "11" + "00111" + "000001" + "10" + "0",
		"more than 64 bits":         first + one + "11" + "11111" + "100001" + strings.Repeat("1", 34) + "0",
		"a new window without need": first + one + "11" + "11110" + "000001" + "11" + "0" + "0" + "11" + "11110" + "000001" + "11" + "0",
		"a difference of 0":         first + one + "11" + "11110" + "000001" + "11" + "0" + "0" + "10" + "00" + "0",
		"bits that fill up":         first + one + "00" + "0001",
	} {
		count := byte(2)
		if what == "0 in seven bits" || what == "a new window without need" || what == "a difference of 0" {
			count = 3
		}
		refused(t, what, packed(count, s))
	}
	window := first + one + "11" + "11110" + "000001" + "11" + "0"
	if l, err := tsz.Decode(packed(2, window)); err != api.OK || len(l) != 2 {
		t.Error("a window", l, err)
	}
	if l, err := tsz.Decode(packed(3, window+"0"+"10"+"11"+"0")); err != api.OK || len(l) != 3 {
		t.Error("a window used again", l, err)
	}
	refused(t, "time out of range", packed(1, fmt.Sprintf("%064b%064b%064b", api.MaxTime+1, 1, 2)))
	refused(t, "negative time", packed(1, fmt.Sprintf("%064b%064b%064b", uint64(math.MaxUint64), 1, 2)))
}

func TestDecodeRefusesCounts(t *testing.T) {
	refused(t, "nothing", nil)
	refused(t, "half a count", []byte{0x80})
	refused(t, "a long count", []byte{0x80, 0})
	b, _ := tsz.Encode(steady(11)) // its 38 bits leave no room for another three
	b[0] = 12
	refused(t, "too many", b)
	b, _ = tsz.Encode(steady(12)) // 41 bits: one byte more than 38
	b[0] = 11
	refused(t, "too few", b)
	b[0] = 0
	refused(t, "none", b)
	many := slices.Concat([]byte{0x81, 0x04}, plain(steady(512))[2:], make([]byte, 9)) // 513
	refused(t, "513 points", many)
	refused(t, "a huge count", append([]byte{0xff, 0xff, 0xff, 0xff, 0xff, 0xff, 0xff, 0xff, 0xff, 1}, b...))
}

func TestDecodeOfAnyBytes(t *testing.T) {
	r := rand.New(rand.NewSource(4))
	for range 5000 {
		b, _ := tsz.Encode(sample(r))
		for range 1 + r.Intn(3) {
			b[r.Intn(len(b))] ^= 1 << r.Intn(8)
		}
		l, err := tsz.Decode(b)
		if err == api.OK && !bytes.Equal(plain(l), b) {
			t.Fatalf("%x is taken for %v", b, l)
		}
		if err != api.OK && (err != api.ErrForm || len(l) > 0) {
			t.Fatal(l, err)
		}
	}
}

func TestSum(t *testing.T) {
	r := rand.New(rand.NewSource(5))
	for range 100 {
		l := sample(r)
		sum, err := tsz.Sum(l)
		want(t, "Sum", err, api.OK)
		want(t, "Sum", sum, adler32.Checksum(plain(l)))
	}
}

func TestPointsLikeTheLastTakeThreeBits(t *testing.T) {
	for n := 3; n < 200; n++ {
		b, _ := tsz.Encode(steady(n))
		count := 1
		if n > 127 {
			count = 2
		}
		want(t, "bytes", len(b), count+24+(11+3*(n-2)+7)/8)
	}
}
