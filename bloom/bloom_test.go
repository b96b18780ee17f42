package bloom_test

import (
	"bytes"
	"math/rand"
	"strconv"
	"strings"
	"testing"

	"thermograph/api"
	"thermograph/bloom"
	"thermograph/digest"
)

func build(t *testing.T, ids ...string) *bloom.Filter {
	t.Helper()
	f, err := bloom.Build(ids)
	if err != api.OK {
		t.Fatal(err)
	}
	return f
}

// plain is what the bytes of a filter are, by the words of the document.
func plain(ids []string) []byte {
	size := max(64, 16*len(ids))
	out := make([]byte, size/8)
	for _, id := range ids {
		for seed := range uint32(4) {
			at := digest.Murmur([]byte(id), seed) % uint32(size)
			out[at/8] |= 1 << (at % 8)
		}
	}
	return out
}

func numbered(n int) []string {
	var ids []string
	for i := range n {
		ids = append(ids, "s"+strconv.Itoa(i))
	}
	return ids
}

// P7.1

func TestBuildSizes(t *testing.T) {
	for _, c := range [][2]int{{0, 8}, {1, 8}, {3, 8}, {4, 8}, {5, 10}, {6, 12}, {100, 200}, {2048, 4096}} {
		if got := len(build(t, numbered(c[0])...).Bytes()); got != c[1] {
			t.Errorf("%d names: got %d bytes, want %d", c[0], got, c[1])
		}
	}
	if got := len(build(t, strings.Split("a a a a a a a a", " ")...).Bytes()); got != 16 {
		t.Errorf("repeated names count, too: got %d bytes", got)
	}
	f, err := bloom.Build(numbered(2049))
	if err != api.ErrMany || f != nil {
		t.Error("too many names:", err)
	}
	f, err = bloom.Build(make([]string, 2049))
	if err != api.ErrMany || f != nil {
		t.Error("too many empty names:", err)
	}
}

func TestBuildBits(t *testing.T) {
	for _, ids := range [][]string{nil, {"a"}, {""}, {"a", "b"}, {"a", "a", "a", "a", "a"}, {"\xff\x00", strings.Repeat("long", 99)}, numbered(5), numbered(77), numbered(2048)} {
		if got := build(t, ids...).Bytes(); !bytes.Equal(got, plain(ids)) {
			t.Errorf("%d names: got %x, want %x", len(ids), got, plain(ids))
		}
	}
}

// P7.2

func TestHas(t *testing.T) {
	f := build(t)
	for _, id := range numbered(50) {
		if f.Has(id) {
			t.Errorf("no names: has %q", id)
		}
	}
	for _, n := range []int{1, 4, 5, 30} {
		ids := numbered(n)
		b := plain(ids)
		f := build(t, ids...)
		for i := range 2000 {
			id := "x" + strconv.Itoa(i)
			all := true
			for seed := range uint32(4) {
				at := digest.Murmur([]byte(id), seed) % uint32(8*len(b))
				all = all && b[at/8]>>(at%8)&1 == 1
			}
			if f.Has(id) != all {
				t.Errorf("%d names: Has(%q): got %v", n, id, !all)
			}
		}
	}
}

func TestParse(t *testing.T) {
	for n := range 5000 {
		b := bytes.Repeat([]byte{0xff}, n)
		f, err := bloom.Parse(b)
		if n < 8 || n > 4096 || n%2 != 0 {
			if err != api.ErrForm || f != nil {
				t.Errorf("%d bytes: got %v", n, err)
			}
			continue
		}
		if err != api.OK || !f.Has("x") || !bytes.Equal(f.Bytes(), b) {
			t.Errorf("%d bytes: got %v", n, err)
		}
	}
	f, _ := bloom.Parse(make([]byte, 8))
	if f.Has("x") || f.Has("") {
		t.Error("an empty filter has a name")
	}
}

func TestMemoryIsApart(t *testing.T) {
	b := bytes.Repeat([]byte{0xff}, 8)
	f, _ := bloom.Parse(b)
	clear(b)
	got := f.Bytes()
	if !f.Has("x") || got[0] != 0xff {
		t.Error("the filter keeps its argument")
	}
	clear(got)
	if !f.Has("x") {
		t.Error("the filter gives out what it keeps")
	}
}

// P7.3

func TestEachNameIsContained(t *testing.T) {
	r := rand.New(rand.NewSource(1))
	for range 100 {
		ids := make([]string, r.Intn(60))
		for i := range ids {
			b := make([]byte, r.Intn(20))
			r.Read(b)
			ids[i] = string(b)
		}
		f := build(t, ids...)
		g, err := bloom.Parse(f.Bytes())
		if err != api.OK {
			t.Fatal(err)
		}
		for _, id := range ids {
			if !f.Has(id) || !g.Has(id) {
				t.Errorf("%q is missing", id)
			}
		}
		for _, id := range numbered(100) {
			if f.Has(id) != g.Has(id) {
				t.Errorf("%q: the parsed filter differs", id)
			}
		}
	}
}

func TestFewOtherNamesAreContained(t *testing.T) {
	f := build(t, numbered(1000)...)
	n := 0
	for i := range 10000 {
		if f.Has("other" + strconv.Itoa(i)) {
			n++
		}
	}
	if n > 100 {
		t.Errorf("%d of 10000", n)
	}
}
