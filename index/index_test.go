package index_test

import (
	"bytes"
	"encoding/binary"
	"fmt"
	"math"
	"math/rand"
	"slices"
	"sort"
	"strings"
	"testing"

	"thermograph/api"
	"thermograph/index"
)

const maxPlace = 1<<31 - 1

func want[T comparable](t *testing.T, what string, got, want T) {
	t.Helper()
	if got != want {
		t.Errorf("%s: got %v, want %v", what, got, want)
	}
}

// entries have the given names and places of their own.
func entries(names string) []index.Entry {
	var l []index.Entry
	for i, s := range strings.Fields(names) {
		l = append(l, index.Entry{ID: s, Off: 300 * i, Size: 7 + i, Sum: uint32(0x01020304 * (i + 1))})
	}
	return l
}

func encode(t *testing.T, l []index.Entry) ([]byte, []byte) {
	t.Helper()
	x, s, err := index.Encode(l)
	if err != api.OK {
		t.Fatal(err)
	}
	return x, s
}

// plain is the encoding of an entry, by the words of the document.
func plain(e index.Entry) []byte {
	b := append(binary.AppendUvarint(nil, uint64(len(e.ID))), e.ID...)
	b = binary.AppendUvarint(b, uint64(e.Off))
	b = binary.AppendUvarint(b, uint64(e.Size))
	return binary.BigEndian.AppendUint32(b, e.Sum)
}

func element(id string, off int) []byte {
	return binary.AppendUvarint(append(binary.AppendUvarint(nil, uint64(len(id))), id...), uint64(off))
}

// P8.1

func TestCheck(t *testing.T) {
	long := strings.Repeat("x", api.MaxID)
	for _, c := range []struct {
		l   []index.Entry
		err api.Errno
	}{
		{nil, api.OK},
		{[]index.Entry{{ID: "a"}}, api.OK},
		{[]index.Entry{{ID: long, Off: maxPlace, Size: maxPlace, Sum: math.MaxUint32}}, api.OK},
		{[]index.Entry{{ID: "a"}, {ID: "aa"}, {ID: "b"}, {ID: "\xff"}}, api.OK},
		{[]index.Entry{{}}, api.ErrID},
		{[]index.Entry{{ID: long + "x"}}, api.ErrID},
		{[]index.Entry{{ID: "", Off: -1}}, api.ErrID},
		{[]index.Entry{{ID: "a", Off: -1}}, api.ErrArg},
		{[]index.Entry{{ID: "a", Off: maxPlace + 1}}, api.ErrArg},
		{[]index.Entry{{ID: "a", Size: -1}}, api.ErrArg},
		{[]index.Entry{{ID: "a", Size: maxPlace + 1}}, api.ErrArg},
		{[]index.Entry{{ID: "a", Size: math.MinInt}}, api.ErrArg},
		{[]index.Entry{{ID: "b"}, {ID: "b"}}, api.ErrOrder},
		{[]index.Entry{{ID: "b"}, {ID: "a"}}, api.ErrOrder},
		{[]index.Entry{{ID: "aa"}, {ID: "a"}}, api.ErrOrder},
		{[]index.Entry{{ID: "b"}, {ID: "a", Off: -1}}, api.ErrArg},
		{[]index.Entry{{ID: "b"}, {ID: "", Off: -1}}, api.ErrID},
		{[]index.Entry{{ID: "b"}, {ID: "a"}, {}}, api.ErrOrder},
		{[]index.Entry{{ID: "b"}, {ID: "c", Size: -1}, {ID: "a"}}, api.ErrArg},
	} {
		want(t, fmt.Sprint("Check of ", c.l), index.Check(c.l), c.err)
		x, s, err := index.Encode(c.l)
		want(t, "Encode", err, c.err)
		if err != api.OK && len(x)+len(s) > 0 {
			t.Error("a result beside an error:", x, s)
		}
	}
}

// P8.2

func TestEncode(t *testing.T) {
	x, s := encode(t, nil)
	want(t, "no entries", len(x)+len(s), 0)
	x, s = encode(t, []index.Entry{{ID: "a", Off: 0, Size: 5, Sum: 7}})
	want(t, "the index", fmt.Sprintf("%x", x), "0161000500000007")
	want(t, "the summary", fmt.Sprintf("%x", s), "016100")
	x, _ = encode(t, []index.Entry{{ID: "b\x00", Off: 300, Size: maxPlace, Sum: 0xfedcba98}})
	want(t, "the index", fmt.Sprintf("%x", x), "026200ac02ffffffff07fedcba98")
}

func TestEncodeSummary(t *testing.T) {
	all := entries("a b c d e f g h i j k l m")
	for n := range len(all) + 1 {
		var index, summary []byte
		for i, e := range all[:n] {
			if i%4 == 0 {
				summary = append(summary, element(e.ID, len(index))...)
			}
			index = append(index, plain(e)...)
		}
		x, s := encode(t, all[:n])
		if !bytes.Equal(x, index) || !bytes.Equal(s, summary) {
			t.Errorf("%d entries: got %x and %x, want %x and %x", n, x, s, index, summary)
		}
	}
}

func TestList(t *testing.T) {
	for _, names := range []string{"", "a", "a b c d e", "a aa aaa b"} {
		l := entries(names)
		x, _ := encode(t, l)
		got, err := index.List(x)
		if err != api.OK || !slices.Equal(got, l) {
			t.Errorf("List: got %v, %v, want %v", got, err, l)
		}
		for i := range x {
			whole := false
			for n := range l {
				y, _ := encode(t, l[:n])
				whole = whole || len(y) == i
			}
			got, err := index.List(x[:i])
			if whole != (err == api.OK) || !whole && (err != api.ErrForm || len(got) > 0) {
				t.Errorf("List of %d of %d bytes: got %v, %v", i, len(x), got, err)
			}
		}
	}
}

func TestListOfWhatIsNoIndex(t *testing.T) {
	good := plain(index.Entry{ID: "m", Off: 1, Size: 2, Sum: 3})
	for what, b := range map[string][]byte{
		"an empty name":   plain(index.Entry{}),
		"a long name":     plain(index.Entry{ID: strings.Repeat("x", 17)}),
		"a far place":     plain(index.Entry{ID: "z", Off: maxPlace + 1}),
		"a great size":    plain(index.Entry{ID: "z", Size: maxPlace + 1}),
		"the same name":   good,
		"a lesser name":   plain(index.Entry{ID: "a"}),
		"a long number":   {1, 'z', 0x80, 0, 0, 0, 0, 0, 0},
		"a long length":   {0x81, 0, 'z', 0, 0, 0, 0, 0, 0},
		"a huge number":   {1, 'z', 0xff, 0xff, 0xff, 0xff, 0xff, 0xff, 0xff, 0xff, 0xff, 1, 0, 0, 0, 0, 0},
		"a huge length":   {0xff, 0xff, 0xff, 0xff, 0xff, 0xff, 0xff, 0xff, 0xff, 1, 'z', 0, 0, 0, 0, 0, 0},
		"a byte too many": {0},
	} {
		if l, err := index.List(slices.Concat(good, b)); err != api.ErrForm || len(l) > 0 {
			t.Errorf("%s: got %v, %v", what, l, err)
		}
	}
	if l, err := index.List(slices.Concat(good, plain(index.Entry{ID: "z", Off: maxPlace, Size: maxPlace}))); err != api.OK || len(l) != 2 {
		t.Error(l, err)
	}
}

// P8.3

func find(t *testing.T, x, s []byte, id string, e index.Entry, examined int, found bool) {
	t.Helper()
	got, n, ok := index.Find(x, s, id)
	if got != e || n != examined || ok != found {
		t.Errorf("Find(%q): got %v, %d, %v, want %v, %d, %v", id, got, n, ok, e, examined, found)
	}
}

func TestFind(t *testing.T) {
	l := entries("a b c d e f g h i")
	x, s := encode(t, l)
	for i, e := range l {
		find(t, x, s, e.ID, e, 1+i%4, true)
	}
	var none index.Entry
	find(t, x, s, "", none, 0, false)
	find(t, x, s, " ", none, 0, false)
	find(t, x, s, "aa", none, 2, false)
	find(t, x, s, "bb", none, 3, false)
	find(t, x, s, "cc", none, 4, false)
	find(t, x, s, "dd", none, 4, false)
	find(t, x, s, "ee", none, 2, false)
	find(t, x, s, "z", none, 1, false)
	find(t, x, s, strings.Repeat("b", 100), none, 3, false)
	find(t, nil, nil, "a", none, 0, false)
	find(t, x, nil, "a", none, 0, false)
	find(t, nil, element("a", 0), "a", none, 0, false)
	l = l[:5]
	x, s = encode(t, l)
	find(t, x, s, "e", l[4], 1, true)
	find(t, x, s, "d", l[3], 4, true)
	find(t, x, s, "dd", none, 4, false)
}

func TestFindSummaries(t *testing.T) {
	l := entries("a b c d e")
	x, _ := encode(t, l)
	var none index.Entry
	at := func(i int) int { y, _ := encode(t, l[:i]); return len(y) }
	good := element("a", 0)
	for what, bad := range map[string][]byte{
		"an empty name":   {0, 0},
		"a long name":     element(strings.Repeat("z", 17), 0),
		"no number":       {1, 'z'},
		"half a name":     {2, 'z'},
		"half a number":   {1, 'z', 0x80},
		"a long number":   {1, 'z', 0x80, 0},
		"past the index":  element("z", len(x)+1),
		"a number too":    element("z", maxPlace+1),
		"a huge number":   {1, 'z', 0xff, 0xff, 0xff, 0xff, 0xff, 0xff, 0xff, 0xff, 0xff, 1},
		"half an element": {1},
	} {
		t.Run(what, func(t *testing.T) {
			find(t, x, slices.Concat(good, bad), "a", none, 0, false)
			find(t, x, slices.Concat(bad, good), "a", none, 0, false)
		})
	}
	find(t, x, slices.Concat(good, element("z", len(x))), "a", l[0], 1, true)
	find(t, x, element("a", len(x)), "a", none, 0, false)
	find(t, x, element(strings.Repeat("a", 16), at(4)), "e", l[4], 1, true)
	// the last element whose name is at most id counts, in whatever order they are
	find(t, x, slices.Concat(element("c", at(2)), element("a", 0)), "c", l[2], 3, true)
	find(t, x, slices.Concat(element("a", 0), element("c", at(2)), element("z", 0)), "c", l[2], 1, true)
	find(t, x, slices.Concat(element("a", at(3)), element("b", 0)), "d", l[3], 4, true)
	find(t, x, slices.Concat(element("a", at(4)), element("a", at(1))), "c", l[2], 2, true)
	find(t, x, element("a", at(1)), "a", none, 1, false)
	find(t, x, element("a", 0), "e", none, 4, false)
	find(t, x, element("a", at(1)), "e", l[4], 4, true)
	find(t, x, element("a", 1), "a", none, 0, false) // in the midst of an entry
}

func TestFindMalformedEntries(t *testing.T) {
	l := entries("a b")
	x, s := encode(t, l)
	var none index.Entry
	for i := range len(plain(l[1])) {
		y := slices.Concat(plain(l[0]), plain(l[1])[:i])
		find(t, y, s, "a", l[0], 1, true)
		find(t, y, s, "b", none, 1, false)
	}
	find(t, x, s, "b", l[1], 2, true)
	for what, bad := range map[string][]byte{
		"an empty name": plain(index.Entry{}),
		"a long name":   plain(index.Entry{ID: strings.Repeat("b", 17)}),
		"a far place":   plain(index.Entry{ID: "b", Off: maxPlace + 1}),
		"a great size":  plain(index.Entry{ID: "b", Size: maxPlace + 1}),
		"a long number": {1, 'b', 0, 0x80, 0, 0, 0, 0, 0},
	} {
		t.Run(what, func(t *testing.T) {
			find(t, slices.Concat(plain(l[0]), bad, plain(l[1])), s, "b", none, 1, false)
			find(t, slices.Concat(bad, plain(l[1])), s, "b", none, 0, false)
			find(t, slices.Concat(plain(l[0]), bad), s, "a", l[0], 1, true)
		})
	}
	e := index.Entry{ID: "b", Off: maxPlace, Size: maxPlace, Sum: math.MaxUint32}
	find(t, slices.Concat(plain(l[0]), plain(e)), s, "b", e, 2, true)
	// entries that do not increase are read all the same
	y := slices.Concat(plain(l[0]), plain(l[0]), plain(e))
	find(t, y, s, "b", e, 3, true)
	y = slices.Concat(plain(e), plain(l[0]))
	find(t, y, s, "a", none, 1, false)
}

func TestArgumentsAreLeftAlone(t *testing.T) {
	l := entries("a b c d e")
	x, s := encode(t, l)
	x2, s2 := bytes.Clone(x), bytes.Clone(s)
	got, _ := index.List(x)
	e, _, _ := index.Find(x, s, "e")
	if !bytes.Equal(x, x2) || !bytes.Equal(s, s2) {
		t.Error("the bytes have changed")
	}
	clear(x)
	clear(s)
	if !slices.Equal(got, l) || e != l[4] {
		t.Error("the results share the bytes", got, e)
	}
}

// P8.4

func TestAllThatIsEncodedIsFound(t *testing.T) {
	r := rand.New(rand.NewSource(1))
	for range 200 {
		set := map[string]index.Entry{}
		for range r.Intn(40) {
			b := make([]byte, 1+r.Intn(16))
			for i := range b {
				b[i] = byte(r.Intn(4) * 85)
			}
			set[string(b)] = index.Entry{ID: string(b), Off: r.Intn(1 << r.Intn(32)), Size: r.Intn(1 << r.Intn(32)), Sum: r.Uint32()}
		}
		var l []index.Entry
		for _, e := range set {
			l = append(l, e)
		}
		sort.Slice(l, func(i, j int) bool { return l[i].ID < l[j].ID })
		x, s := encode(t, l)
		if got, err := index.List(x); err != api.OK || !slices.Equal(got, l) {
			t.Fatal(got, err)
		}
		for i, e := range l {
			find(t, x, s, e.ID, e, 1+i%4, true)
			if _, there := set[e.ID+"!"]; !there {
				got, n, ok := index.Find(x, s, e.ID+"!")
				if ok || n < 1 || n > 4 || got != (index.Entry{}) {
					t.Fatal(got, n, ok)
				}
			}
		}
	}
}
