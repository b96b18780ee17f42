package commitlog_test

import (
	"bytes"
	"encoding/binary"
	"fmt"
	"hash/adler32"
	"math"
	"math/rand"
	"slices"
	"strings"
	"testing"

	"thermograph/api"
	"thermograph/commitlog"
	"thermograph/disk"
)

func want[T comparable](t *testing.T, what string, got, want T) {
	t.Helper()
	if got != want {
		t.Errorf("%s: got %v, want %v", what, got, want)
	}
}

func record(space int, id string, t int, v, s uint64) api.Record {
	return api.Record{Space: space, ID: id, P: api.Point{T: t, V: v, S: s}}
}

// n is the n-th of a row of records that all differ.
func nth(n int) api.Record {
	return record(n%4, fmt.Sprint("s", n), 100*n, uint64(n), uint64(2*n))
}

// frame lays length and checksum before a body.
func frame(body []byte) []byte {
	b := binary.AppendUvarint(nil, uint64(len(body)))
	return append(binary.BigEndian.AppendUint32(b, adler32.Checksum(body)), body...)
}

func body(r api.Record) []byte {
	b := binary.AppendUvarint(nil, uint64(r.Space))
	b = append(binary.AppendUvarint(b, uint64(len(r.ID))), r.ID...)
	b = binary.AppendUvarint(b, uint64(r.P.T))
	return binary.BigEndian.AppendUint64(binary.BigEndian.AppendUint64(b, r.P.V), r.P.S)
}

func encode(t *testing.T, rs ...api.Record) []byte {
	t.Helper()
	var out []byte
	for _, r := range rs {
		b, err := commitlog.Encode(r)
		if err != api.OK {
			t.Fatal(err)
		}
		out = append(out, b...)
	}
	return out
}

func opened(t *testing.T, d *disk.Disk, want ...api.Record) *commitlog.Log {
	t.Helper()
	ops, pending := d.Ops(), d.Pending()
	l, got := commitlog.Open(d)
	if !slices.Equal(got, want) {
		t.Errorf("Open: got %v, want %v", got, want)
	}
	if d.Ops() != ops || d.Pending() != pending {
		t.Error("Open makes a raw call")
	}
	return l
}

// P9.1

func TestEncode(t *testing.T) {
	b := encode(t, record(0, "a", 5, 1, 2))
	want(t, "the example", fmt.Sprintf("%x", b), fmt.Sprintf("14%08x", adler32.Checksum(b[5:]))+"00016105"+"0000000000000001"+"0000000000000002")
	for _, r := range []api.Record{
		record(3, strings.Repeat("\xff", 16), api.MaxTime, math.MaxUint64, 1<<63),
		record(0, "\x00", 0, 0, 0),
		record(2, "ab", 300, 7, 8),
	} {
		if got := encode(t, r); !bytes.Equal(got, frame(body(r))) {
			t.Errorf("%v: got %x, want %x", r, got, frame(body(r)))
		}
	}
	for _, c := range []struct {
		r   api.Record
		err api.Errno
	}{
		{record(-1, "a", 5, 1, 2), api.ErrArg},
		{record(4, "a", 5, 1, 2), api.ErrArg},
		{record(0, "a", -1, 1, 2), api.ErrArg},
		{record(0, "a", api.MaxTime+1, 1, 2), api.ErrArg},
		{record(0, "", 5, 1, 2), api.ErrID},
		{record(0, strings.Repeat("x", 17), 5, 1, 2), api.ErrID},
		{record(4, "", 5, 1, 2), api.ErrArg},
		{record(0, "", -1, 1, 2), api.ErrArg},
	} {
		b, err := commitlog.Encode(c.r)
		want(t, fmt.Sprint(c.r), err, c.err)
		want(t, "bytes", len(b), 0)
	}
}

func decoded(t *testing.T, what string, b []byte, size int, want ...api.Record) {
	t.Helper()
	got, n := commitlog.Decode(b)
	if !slices.Equal(got, want) || n != size {
		t.Errorf("%s: got %v and %d, want %v and %d", what, got, n, want, size)
	}
}

func TestDecode(t *testing.T) {
	rs := []api.Record{nth(1), record(3, strings.Repeat("\xff", 16), api.MaxTime, math.MaxUint64, 1<<63), nth(0), nth(1)}
	all := encode(t, rs...)
	for i := range len(all) + 1 {
		n, size := 0, 0
		for n < len(rs) && size+len(encode(t, rs[n])) <= i {
			size += len(encode(t, rs[n]))
			n++
		}
		decoded(t, fmt.Sprint(i, " bytes"), all[:i], size, rs[:n]...)
	}
	decoded(t, "what follows does not count", slices.Concat(encode(t, nth(1)), []byte{0}, encode(t, nth(2))), len(encode(t, nth(1))), nth(1))
	decoded(t, "nothing", nil, 0)
}

func TestDecodeOfWhatIsNoRecord(t *testing.T) {
	good := encode(t, nth(1))
	plain := body(nth(2))
	wrong := frame(plain)
	wrong[3] ^= 1
	for what, b := range map[string][]byte{
		"a wrong checksum":   wrong,
		"an empty body":      frame(nil),
		"a short body":       frame(plain[:len(plain)-1]),
		"a long body":        frame(append(bytes.Clone(plain), 0)),
		"another space":      frame(append([]byte{4}, plain[1:]...)),
		"a long number":      frame(append([]byte{0x82, 0}, plain[1:]...)),
		"a huge number":      frame(append([]byte{0xff, 0xff, 0xff, 0xff, 0xff, 0xff, 0xff, 0xff, 0xff, 1}, plain[1:]...)),
		"an empty name":      frame(slices.Concat([]byte{0, 0, 5}, plain[len(plain)-16:])),
		"a long name":        frame(slices.Concat([]byte{0, 17}, []byte(strings.Repeat("x", 17)), []byte{5}, plain[len(plain)-16:])),
		"a late time":        frame(slices.Concat([]byte{0, 1, 'a'}, binary.AppendUvarint(nil, api.MaxTime+1), plain[len(plain)-16:])),
		"a long time":        frame(slices.Concat([]byte{0, 1, 'a', 0x85, 0}, plain[len(plain)-16:])),
		"a name past it":     frame([]byte{0, 16, 'a'}),
		"a long length":      append([]byte{byte(len(plain)) | 0x80, 0}, frame(plain)[1:]...),
		"a huge length":      append([]byte{0xff, 0xff, 0xff, 0xff, 0xff, 0xff, 0xff, 0xff, 0xff, 1}, frame(plain)[1:]...),
		"a length past it":   append([]byte{byte(len(plain)) + 1}, frame(plain)[1:]...),
		"a length before it": append([]byte{byte(len(plain)) - 1}, frame(plain)[1:]...),
		"a length only":      {5},
	} {
		decoded(t, what, b, 0)
		decoded(t, what, append(bytes.Clone(good), b...), len(good), nth(1))
	}
	for i := range len(good) * 8 {
		b := bytes.Clone(good)
		b[i/8] ^= 1 << (i % 8)
		decoded(t, "a changed bit", b, 0)
	}
}

func TestDecodeLeavesItsArgument(t *testing.T) {
	b := encode(t, nth(1), nth(2))
	keep := bytes.Clone(b)
	got, _ := commitlog.Decode(b)
	want(t, "bytes", bytes.Equal(b, keep), true)
	clear(b)
	want(t, "record", got[1], nth(2))
}

// P9.2

func TestOpen(t *testing.T) {
	d := disk.New(1 << 20)
	l := opened(t, d)
	want(t, "Number", l.Number(), 1)
	for name, n := range map[string]int{
		"log-2": 2, "log-10": 10, "log-9": 9, "log-100": 11,
		"log-0": 20, "log-01": 21, "log-": 22, "log-+3": 23, "log--3": 24, "log-1000000000": 25, "log-3x": 26, "log- 3": 27,
		"Log-3": 28, "log3": 29, "xlog-3": 30, "log-0000000001": 31, "log-1_0": 32, "log-٣": 33, "log-3\x00": 34,
	} {
		d.Append(name, string(encode(t, nth(n))))
	}
	d.Append("log-10", string(encode(t, nth(12))))
	d.Append("log-9", "\x00 and more")
	l = opened(t, d, nth(2), nth(9), nth(10), nth(12), nth(11))
	want(t, "Number", l.Number(), 101)
	d.Append("log-999999998", "")
	l = opened(t, d, nth(2), nth(9), nth(10), nth(12), nth(11))
	want(t, "an empty file counts", l.Number(), 999999999)
	d.Append("log-999999999", string(encode(t, nth(13))))
	l = opened(t, d, nth(2), nth(9), nth(10), nth(12), nth(11), nth(13))
	want(t, "nine digits", l.Number(), 1000000000)
}

func TestOpenWithoutPower(t *testing.T) {
	d := disk.New(100)
	opened(t, d).Write(nth(1))
	d.Crash(0, 0)
	l := opened(t, d, nth(1))
	want(t, "Number", l.Number(), 2)
	want(t, "Write", l.Write(nth(2)), api.ErrDead)
}

// P9.3

func TestWrite(t *testing.T) {
	d := disk.New(1 << 20)
	l := opened(t, d)
	want(t, "Write", l.Write(nth(1)), api.OK)
	want(t, "two raw calls", d.Ops(), 2)
	want(t, "synced", d.Pending(), 0)
	want(t, "Write", l.Write(nth(2)), api.OK)
	want(t, "the same file", l.Number(), 1)
	text, _ := d.Read("log-1")
	want(t, "the file", text, string(encode(t, nth(1), nth(2))))
	l = opened(t, d, nth(1), nth(2))
	want(t, "Write", l.Write(nth(3)), api.OK)
	text, _ = d.Read("log-2")
	want(t, "the next file", text, string(encode(t, nth(3))))
	opened(t, d, nth(1), nth(2), nth(3))
}

func TestWriteErrors(t *testing.T) {
	d := disk.New(60)
	l := opened(t, d)
	want(t, "not a record", l.Write(record(9, "a", 1, 1, 1)), api.ErrArg)
	want(t, "not a record", l.Write(record(1, "", 1, 1, 1)), api.ErrID)
	want(t, "Number", l.Number(), 1)
	want(t, "Ops", d.Ops(), 0)
	want(t, "Write", l.Write(nth(1)), api.OK)
	want(t, "Write", l.Write(nth(2)), api.OK)
	want(t, "full", l.Write(nth(3)), api.ErrFull)
	want(t, "Number", l.Number(), 2)
	want(t, "full", l.Write(nth(3)), api.ErrFull)
	want(t, "Number", l.Number(), 3)
	d.Cut(0, 0, 0)
	want(t, "full comes first", l.Write(nth(3)), api.ErrFull)
	want(t, "full comes first", d.Dead(), false)
	opened(t, d, nth(1), nth(2))
}

func TestWriteAfterALoss(t *testing.T) {
	d := disk.New(1 << 20)
	l := opened(t, d)
	want(t, "Write", l.Write(nth(1)), api.OK)
	d.Cut(1, 0, 5) // in the sync
	want(t, "Write", l.Write(nth(2)), api.ErrDead)
	want(t, "Number", l.Number(), 2)
	want(t, "Write", l.Write(nth(2)), api.ErrDead)
	want(t, "Number", l.Number(), 3)
	d.Power()
	want(t, "Write", l.Write(nth(3)), api.OK)
	want(t, "Number", l.Number(), 3)
	opened(t, d, nth(1), nth(3))
}

// P9.4

func TestRotateAndDrop(t *testing.T) {
	d := disk.New(1 << 20)
	l := opened(t, d)
	l.Write(nth(1))
	want(t, "Rotate", l.Rotate(), 2)
	want(t, "Number", l.Number(), 2)
	want(t, "Write", l.Write(nth(2)), api.OK)
	want(t, "Drop", l.Drop(2), api.OK)
	opened(t, d, nth(2))
	ops := d.Ops()
	want(t, "nothing to drop", l.Drop(2), api.OK)
	want(t, "no raw call", d.Ops(), ops)
	want(t, "not the current one", l.Drop(math.MaxInt), api.OK)
	want(t, "no raw call", d.Ops(), ops)
	opened(t, d, nth(2))
	want(t, "Rotate", l.Rotate(), 3)
	want(t, "below", l.Drop(math.MinInt), api.OK)
	want(t, "below", l.Drop(2), api.OK)
	opened(t, d, nth(2))
	want(t, "Drop", l.Drop(3), api.OK)
	want(t, "a remove and a sync", d.Ops(), ops+2)
	want(t, "synced", d.Pending(), 0)
	opened(t, d)
	want(t, "Number", l.Number(), 3)
}

func TestDropInOrder(t *testing.T) {
	for cut := range 5 {
		d := disk.New(1 << 20)
		for _, n := range []int{2, 9, 10} {
			d.Append(fmt.Sprint("log-", n), string(encode(t, nth(n))))
		}
		d.Append("log-0", "x")
		d.Append("other", "x")
		d.Sync()
		l := opened(t, d, nth(2), nth(9), nth(10))
		d.Cut(cut, 9, 0)
		err := api.ErrDead
		if cut == 4 {
			err = api.OK
		}
		want(t, "Drop", l.Drop(100), err)
		opened(t, d, []api.Record{nth(2), nth(9), nth(10)}[min(cut, 3):]...)
		if _, ok := d.Read("log-0"); !ok {
			t.Error("Drop removes another file")
		}
	}
}

func TestDropBelowOnly(t *testing.T) {
	d := disk.New(1 << 20)
	for _, n := range []int{1, 2, 3, 11} {
		d.Append(fmt.Sprint("log-", n), string(encode(t, nth(n))))
	}
	l := opened(t, d, nth(1), nth(2), nth(3), nth(11))
	want(t, "Drop", l.Drop(3), api.OK)
	opened(t, d, nth(3), nth(11))
}

// P9.5

func TestWhatWasWrittenStays(t *testing.T) {
	for seed := range int64(400) {
		r := rand.New(rand.NewSource(seed))
		d := disk.New(60 + r.Intn(1000))
		l, _ := commitlog.Open(d)
		var sure, maybe []api.Record // what has to be there; what may be there, and whole
		for n := range 30 {
			if r.Intn(4) == 0 {
				d.Cut(r.Intn(5), r.Intn(3), r.Intn(40))
			}
			if r.Intn(6) == 0 {
				l.Rotate()
			}
			if l.Write(nth(n)) == api.OK {
				sure = append(sure, nth(n))
			} else {
				maybe = append(maybe, nth(n))
			}
			if r.Intn(3) == 0 {
				d.Crash(r.Intn(3), r.Intn(40))
			}
			d.Power()
			got := opened2(d, &l, r.Intn(3) == 0)
			at := 0
			for _, x := range got {
				if at < len(sure) && x == sure[at] {
					at++
				} else if !slices.Contains(maybe, x) {
					t.Fatalf("seed %d: a record that was not written: %v", seed, x)
				}
			}
			if at < len(sure) {
				t.Fatalf("seed %d: got %v, want %v", seed, got, sure)
			}
		}
	}
}

// opened2 returns the records, and goes on with the new log if it is told to.
func opened2(d *disk.Disk, l **commitlog.Log, renew bool) []api.Record {
	m, got := commitlog.Open(d)
	if renew {
		*l = m
	}
	return got
}
