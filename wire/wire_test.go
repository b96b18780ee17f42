package wire_test

import (
	"bytes"
	"encoding/binary"
	"fmt"
	"math"
	"math/rand"
	"reflect"
	"slices"
	"strings"
	"testing"

	"thermograph/api"
	"thermograph/wire"
)

const end = api.MaxTime + 1

func want[T comparable](t *testing.T, what string, got, want T) {
	t.Helper()
	if got != want {
		t.Errorf("%s: got %v, want %v", what, got, want)
	}
}

func pt(t int, v, s uint64) api.Point { return api.Point{T: t, V: v, S: s} }

// full is a message with something in every field.
func full(kind int) wire.Message {
	return wire.Message{
		Kind: kind, Seq: 1, Epoch: 300, Space: 3, Shard: 4, ID: "ab", Block: 60, R: api.Range{From: 7, To: 500}, P: pt(8, 9, 10), Err: 140, More: true,
		Points: []api.Point{pt(5, 1, 2), pt(4, math.MaxUint64, 1<<63)},
		Metas:  []api.Meta{{ID: "x", Block: 120, Count: 2, Sum: 0x01020304}, {ID: "", Block: 0, Count: 512, Sum: math.MaxUint32}},
	}
}

// trim leaves of a message what its kind has, and no nil lists.
func trim(m wire.Message) wire.Message {
	out := wire.Message{Kind: m.Kind, Seq: m.Seq, Epoch: m.Epoch}
	switch m.Kind {
	case wire.Write:
		out.Space, out.ID, out.P = m.Space, m.ID, m.P
	case wire.Wrote:
		out.Err = m.Err
	case wire.Read:
		out.Space, out.ID, out.R = m.Space, m.ID, m.R
	case wire.Told, wire.Stream:
		out.Err, out.Points = m.Err, append([]api.Point{}, m.Points...)
	case wire.Metas:
		out.Space, out.Shard, out.R, out.Block, out.ID = m.Space, m.Shard, m.R, m.Block, m.ID
	case wire.Paged:
		out.Err, out.More, out.Metas = m.Err, m.More, append([]api.Meta{}, m.Metas...)
	case wire.Block:
		out.Space, out.Shard, out.Block, out.ID = m.Space, m.Shard, m.Block, m.ID
	}
	return out
}

// plain encodes a message by the words of the document.
func plain(m wire.Message) []byte {
	b := []byte{byte(m.Kind)}
	num := func(ns ...int) {
		for _, n := range ns {
			b = binary.AppendUvarint(b, uint64(n))
		}
	}
	text := func(s string) { num(len(s)); b = append(b, s...) }
	point := func(p api.Point) {
		num(p.T)
		b = binary.BigEndian.AppendUint64(binary.BigEndian.AppendUint64(b, p.V), p.S)
	}
	num(m.Seq, m.Epoch)
	switch m.Kind {
	case wire.Write:
		num(m.Space)
		text(m.ID)
		point(m.P)
	case wire.Wrote:
		num(int(m.Err))
	case wire.Read:
		num(m.Space)
		text(m.ID)
		num(m.R.From, m.R.To)
	case wire.Told, wire.Stream:
		num(int(m.Err), len(m.Points))
		for _, p := range m.Points {
			point(p)
		}
	case wire.Metas:
		num(m.Space, m.Shard, m.R.From, m.R.To, m.Block)
		text(m.ID)
	case wire.Paged:
		more := 0
		if m.More {
			more = 1
		}
		num(int(m.Err), more, len(m.Metas))
		for _, x := range m.Metas {
			text(x.ID)
			num(x.Block, x.Count)
			b = binary.BigEndian.AppendUint32(b, x.Sum)
		}
	case wire.Block:
		num(m.Space, m.Shard, m.Block)
		text(m.ID)
	}
	return b
}

// P13.1

func TestKinds(t *testing.T) {
	for i, k := range []int{wire.Write, wire.Wrote, wire.Read, wire.Told, wire.Metas, wire.Paged, wire.Block, wire.Stream} {
		want(t, "kind", k, i+1)
	}
}

func TestEncodeExamples(t *testing.T) {
	for _, c := range []struct {
		m wire.Message
		s string
	}{
		{wire.Message{Kind: wire.Wrote, Seq: 1, Epoch: 2}, "02010200"},
		{wire.Message{Kind: wire.Metas, Seq: 1, Epoch: 2, Shard: 3, R: api.Range{To: 60}}, "0501020003003c0000"},
		{wire.Message{Kind: wire.Wrote, Seq: 300, Epoch: api.MaxTime, Err: 255}, "02ac02808080808020ff01"},
		{wire.Message{Kind: wire.Write, Space: 255, ID: "a", P: pt(5, 1, 2)}, "010000ff0101610500000000000000010000000000000002"},
		{wire.Message{Kind: wire.Read, ID: "ab", R: api.Range{From: 1, To: 2}}, "0300000002616201" + "02"},
		{wire.Message{Kind: wire.Told}, "0400000000"},
		{wire.Message{Kind: wire.Stream, Err: 7, Points: []api.Point{pt(1, 2, 3)}}, "08000007010100000000000000020000000000000003"},
		{wire.Message{Kind: wire.Paged, More: true, Metas: []api.Meta{{ID: "a", Block: 60, Count: 2, Sum: 0x01020304}}}, "060000000101" + "01613c0201020304"},
		{wire.Message{Kind: wire.Block, Space: 1, Shard: 2, Block: 60, ID: "a"}, "07000001023c0161"},
	} {
		b, err := wire.Encode(c.m)
		want(t, fmt.Sprint("kind ", c.m.Kind), fmt.Sprintf("%x", b), c.s)
		want(t, "error", err, api.OK)
	}
}

func TestEncodeAllFields(t *testing.T) {
	for kind := 1; kind <= 8; kind++ {
		m := full(kind)
		b, err := wire.Encode(m)
		if err != api.OK || !bytes.Equal(b, plain(m)) {
			t.Errorf("kind %d: got %x, %v, want %x", kind, b, err, plain(m))
		}
		if !reflect.DeepEqual(m, full(kind)) {
			t.Error("the message has changed")
		}
		c, _ := wire.Encode(trim(m))
		want(t, "fields of other kinds count not", string(c), string(b))
	}
}

// change is a field that may not be, in the kinds that have it.
type change struct {
	what  string
	kinds string
	set   func(m *wire.Message)
	err   api.Errno
}

// changes are in the order in which the fields are examined, whatever the kind.
func changes() []change {
	long := strings.Repeat("x", api.MaxID+1)
	return []change{
		{"Seq", "12345678", func(m *wire.Message) { m.Seq = -1 }, api.ErrArg},
		{"Seq", "12345678", func(m *wire.Message) { m.Seq = api.MaxTime + 1 }, api.ErrArg},
		{"Epoch", "12345678", func(m *wire.Message) { m.Epoch = -1 }, api.ErrArg},
		{"Epoch", "12345678", func(m *wire.Message) { m.Epoch = api.MaxTime + 1 }, api.ErrArg},
		{"Err", "2468", func(m *wire.Message) { m.Err = -1 }, api.ErrArg},
		{"Err", "2468", func(m *wire.Message) { m.Err = 256 }, api.ErrArg},
		{"Space", "1357", func(m *wire.Message) { m.Space = -1 }, api.ErrArg},
		{"Space", "1357", func(m *wire.Message) { m.Space = 256 }, api.ErrArg},
		{"Shard", "57", func(m *wire.Message) { m.Shard = -1 }, api.ErrArg},
		{"Shard", "57", func(m *wire.Message) { m.Shard = 256 }, api.ErrArg},
		{"ID", "13", func(m *wire.Message) { m.ID = long }, api.ErrID},
		{"R.From", "35", func(m *wire.Message) { m.R.From = -1 }, api.ErrArg},
		{"R.From", "35", func(m *wire.Message) { m.R.From = end + 1 }, api.ErrArg},
		{"R.To", "35", func(m *wire.Message) { m.R.To = -1 }, api.ErrArg},
		{"R.To", "35", func(m *wire.Message) { m.R.To = end + 1 }, api.ErrArg},
		{"P.T", "1", func(m *wire.Message) { m.P.T = -1 }, api.ErrArg},
		{"P.T", "1", func(m *wire.Message) { m.P.T = api.MaxTime + 1 }, api.ErrArg},
		{"Block", "57", func(m *wire.Message) { m.Block = -1 }, api.ErrArg},
		{"Block", "57", func(m *wire.Message) { m.Block = api.MaxTime + 1 }, api.ErrArg},
		{"ID", "57", func(m *wire.Message) { m.ID = long }, api.ErrID},
		{"Points", "48", func(m *wire.Message) { m.Points = make([]api.Point, 513); m.Points[0].T = -1 }, api.ErrMany},
		{"Points", "48", func(m *wire.Message) { m.Points = []api.Point{{}, {T: -1}} }, api.ErrArg},
		{"Points", "48", func(m *wire.Message) { m.Points = []api.Point{{T: api.MaxTime + 1}} }, api.ErrArg},
		{"Metas", "6", func(m *wire.Message) { m.Metas = make([]api.Meta, 9); m.Metas[0].ID = long }, api.ErrMany},
		{"Metas", "6", func(m *wire.Message) { m.Metas = []api.Meta{{}, {ID: long, Block: -1}} }, api.ErrID},
		{"Metas", "6", func(m *wire.Message) { m.Metas = []api.Meta{{Block: -1}, {ID: long}} }, api.ErrArg},
		{"Metas", "6", func(m *wire.Message) { m.Metas = []api.Meta{{Block: api.MaxTime + 1}} }, api.ErrArg},
		{"Metas", "6", func(m *wire.Message) { m.Metas = []api.Meta{{Count: -1}, {ID: long}} }, api.ErrArg},
		{"Metas", "6", func(m *wire.Message) { m.Metas = []api.Meta{{Count: 513}, {ID: long}} }, api.ErrArg},
	}
}

func TestEncodeErrors(t *testing.T) {
	all := changes()
	for kind := 1; kind <= 8; kind++ {
		for i, c := range all {
			m := full(kind)
			c.set(&m)
			has := strings.Contains(c.kinds, fmt.Sprint(kind))
			if !has && c.what == "ID" && kind%2 == 1 {
				continue // it stands elsewhere in this kind
			}
			err := api.OK
			if has {
				err = c.err
			}
			b, got := wire.Encode(m)
			want(t, fmt.Sprintf("kind %d: %s", kind, c.what), got, err)
			want(t, "bytes", len(b) == 0, has)
			if !has {
				continue
			}
			for _, d := range all[i+1:] { // the first error counts
				n := m
				if d.what != c.what && strings.Contains(d.kinds, fmt.Sprint(kind)) {
					d.set(&n)
					_, got := wire.Encode(n)
					want(t, fmt.Sprintf("kind %d: %s and %s", kind, c.what, d.what), got, err)
				}
			}
		}
	}
	for _, kind := range []int{0, -1, 9, 256 + 1, math.MinInt, math.MaxInt} {
		m := full(kind)
		b, err := wire.Encode(m)
		want(t, fmt.Sprint("kind ", kind), err, api.ErrArg)
		want(t, "bytes", len(b), 0)
		m.Seq, m.ID = -1, strings.Repeat("x", 99)
		_, err = wire.Encode(m)
		want(t, fmt.Sprint("kind ", kind), err, api.ErrArg)
	}
}

func TestEncodeGreatestFields(t *testing.T) {
	for kind := 1; kind <= 8; kind++ {
		m := wire.Message{
			Kind: kind, Seq: api.MaxTime, Epoch: api.MaxTime, Space: 255, Shard: 255, ID: strings.Repeat("\xff", api.MaxID), Block: api.MaxTime,
			R: api.Range{From: end, To: end}, P: pt(api.MaxTime, math.MaxUint64, math.MaxUint64), Err: 255, More: true,
		}
		for range api.MaxPoints {
			m.Points = append(m.Points, m.P)
		}
		for range api.PageSize {
			m.Metas = append(m.Metas, api.Meta{ID: m.ID, Block: api.MaxTime, Count: 512, Sum: math.MaxUint32})
		}
		for _, m := range []wire.Message{m, {Kind: kind}} {
			b, err := wire.Encode(m)
			if err != api.OK || !bytes.Equal(b, plain(m)) {
				t.Errorf("kind %d: got %x, %v", kind, b, err)
			}
			got, err := wire.Decode(b)
			if err != api.OK || !same(got, m) {
				t.Errorf("kind %d: got %v, %v", kind, got, err)
			}
		}
	}
}

// P13.2

// same reports whether a decoded message is m, as far as its kind has fields.
func same(got, m wire.Message) bool {
	if len(got.Points) == 0 {
		got.Points = trim(m).Points
		if len(m.Points) > 0 && got.Points != nil {
			return false
		}
	}
	if len(got.Metas) == 0 {
		got.Metas = trim(m).Metas
		if len(m.Metas) > 0 && got.Metas != nil {
			return false
		}
	}
	return reflect.DeepEqual(got, trim(m))
}

func refused(t *testing.T, what string, b []byte) {
	t.Helper()
	if m, err := wire.Decode(b); err != api.ErrFrame || !reflect.DeepEqual(m, wire.Message{}) {
		t.Errorf("%s: %x: got %v, %v", what, b, m, err)
	}
}

func TestDecode(t *testing.T) {
	for kind := 1; kind <= 8; kind++ {
		m := full(kind)
		b := plain(m)
		got, err := wire.Decode(b)
		if err != api.OK || !same(got, m) {
			t.Errorf("kind %d: got %v, %v, want %v", kind, got, err, trim(m))
		}
		for i := range b {
			refused(t, "cut", b[:i])
		}
		refused(t, "longer", append(bytes.Clone(b), 0))
		for i := range b {
			refused(t, "a longer number", slices.Concat(b[:i], []byte{b[i] | 0x80, 0}, b[i+1:]))
			if t.Failed() {
				break
			}
		}
	}
	refused(t, "the example", []byte{2, 1, 2})
	refused(t, "the example", []byte{2, 1, 2, 0, 0})
	refused(t, "the example", []byte{9, 1, 2})
	refused(t, "no kind", []byte{0, 1, 2, 0})
	refused(t, "no kind", []byte{0x82, 0, 1, 2, 0})
	refused(t, "no kind", []byte{255, 1, 2, 0})
	refused(t, "More", []byte{6, 0, 0, 0, 2, 0})
	refused(t, "More", []byte{6, 0, 0, 0, 0x81, 0, 0})
	refused(t, "a huge number of points", append([]byte{4, 0, 0, 0}, binary.AppendUvarint(nil, math.MaxUint64)...))
	refused(t, "a huge number", append(binary.AppendUvarint([]byte{2, 0}, math.MaxUint64), 0))
}

func TestDecodeRefusesWhatEncodeRefuses(t *testing.T) {
	for kind := 1; kind <= 8; kind++ {
		for _, c := range changes() {
			m := full(kind)
			c.set(&m)
			if strings.Contains(c.kinds, fmt.Sprint(kind)) {
				refused(t, fmt.Sprintf("kind %d: %s", kind, c.what), plain(m))
			}
		}
	}
}

func TestDecodeLongBytes(t *testing.T) {
	b := plain(wire.Message{Kind: wire.Wrote})
	for _, n := range []int{api.MaxFrame, api.MaxFrame + 1, 1 << 20} {
		refused(t, "long", append(bytes.Clone(b), make([]byte, n-len(b))...))
	}
}

func TestMemoryIsApart(t *testing.T) {
	for _, kind := range []int{wire.Write, wire.Told, wire.Paged} {
		b := plain(full(kind))
		m, _ := wire.Decode(b)
		keep := bytes.Clone(b)
		clear(b)
		if !same(m, full(kind)) {
			t.Error("the message shares the bytes")
		}
		for i := range m.Points {
			m.Points[i].T = 99
		}
		m, _ = wire.Decode(keep)
		if !same(m, full(kind)) {
			t.Error("the message is shared")
		}
	}
}

// P13.3

func random(r *rand.Rand) wire.Message {
	id := func() string { return strings.Repeat(string(rune('a'+r.Intn(26))), r.Intn(api.MaxID+1)) }
	long := func(most int) int { return r.Intn(1 + most>>r.Intn(40)) }
	m := wire.Message{
		Kind: 1 + r.Intn(8), Seq: long(api.MaxTime), Epoch: long(api.MaxTime), Space: r.Intn(256), Shard: r.Intn(256), ID: id(), Block: long(api.MaxTime),
		R: api.Range{From: long(end), To: long(end)}, P: pt(long(api.MaxTime), r.Uint64(), r.Uint64()), Err: api.Errno(r.Intn(256)), More: r.Intn(2) == 0,
	}
	for range r.Intn(6) {
		m.Points = append(m.Points, pt(long(api.MaxTime), r.Uint64(), r.Uint64()))
		m.Metas = append(m.Metas, api.Meta{ID: id(), Block: long(api.MaxTime), Count: r.Intn(513), Sum: r.Uint32()})
	}
	return m
}

func TestDecodingUndoesEncoding(t *testing.T) {
	r := rand.New(rand.NewSource(1))
	for range 3000 {
		m := random(r)
		b, err := wire.Encode(m)
		if err != api.OK || !bytes.Equal(b, plain(m)) {
			t.Fatal(m, err)
		}
		got, err := wire.Decode(b)
		if err != api.OK || !same(got, m) {
			t.Fatalf("got %v, %v, want %v", got, err, m)
		}
	}
}

func TestDecodeOfAnyBytes(t *testing.T) {
	r := rand.New(rand.NewSource(2))
	for range 30000 {
		b := plain(random(r))
		for range 1 + r.Intn(2) {
			b[r.Intn(len(b))] = byte(r.Intn(256))
		}
		m, err := wire.Decode(b)
		if err != api.OK && err != api.ErrFrame {
			t.Fatal(err)
		}
		if again, e := wire.Encode(m); err == api.OK && (e != api.OK || !bytes.Equal(again, b)) {
			t.Fatalf("%x is taken for %v", b, m)
		}
	}
}
