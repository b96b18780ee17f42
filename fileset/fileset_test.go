package fileset_test

import (
	"encoding/binary"
	"fmt"
	"hash/adler32"
	"math"
	"math/rand"
	"slices"
	"strings"
	"testing"

	"thermograph/api"
	"thermograph/bloom"
	"thermograph/disk"
	"thermograph/fileset"
	"thermograph/index"
	"thermograph/tsz"
)

func want[T comparable](t *testing.T, what string, got, want T) {
	t.Helper()
	if got != want {
		t.Errorf("%s: got %v, want %v", what, got, want)
	}
}

func partNames() []string {
	return []string{"info", "index", "summary", "bloom", "data", "digest", "check"}
}

func key(space, shard, block, volume int) fileset.Key {
	return fileset.Key{Space: space, Shard: shard, Block: block, Volume: volume}
}

func pt(t int, v, s uint64) api.Point { return api.Point{T: t, V: v, S: s} }

func series(id string, points ...api.Point) api.Series {
	return api.Series{ID: id, Points: points}
}

func file(t *testing.T, k fileset.Key, part string) string {
	t.Helper()
	s, err := fileset.Name(k, part)
	if err != api.OK {
		t.Fatal(err)
	}
	return s
}

// written is a disk with the volumes, each with a point that tells which one it is.
func written(t *testing.T, ks ...fileset.Key) *disk.Disk {
	t.Helper()
	d := disk.New(1 << 20)
	for _, k := range ks {
		if err := fileset.Write(d, k, []api.Series{series("a", pt(k.Block, uint64(k.Volume), 1))}); err != api.OK {
			t.Fatal(err)
		}
	}
	return d
}

func keys(t *testing.T, d *disk.Disk, want ...fileset.Key) {
	t.Helper()
	if got := fileset.List(d); !slices.Equal(got, want) {
		t.Errorf("List: got %v, want %v", got, want)
	}
}

func adler(s string) string {
	return string(binary.BigEndian.AppendUint32(nil, adler32.Checksum([]byte(s))))
}

func forbidden() []fileset.Key {
	return []fileset.Key{
		key(-1, 0, 0, 1), key(4, 0, 0, 1), key(0, -1, 0, 1), key(0, 8, 0, 1), key(0, 0, -1, 1), key(0, 0, api.MaxTime+1, 1),
		key(0, 0, 0, 0), key(0, 0, 0, -1), key(0, 0, 0, 1000000), key(math.MaxInt, 0, 0, 1), key(0, 0, 0, math.MinInt),
	}
}

// P10.1

func TestName(t *testing.T) {
	want(t, "Name", file(t, key(0, 1, 60, 2), "info"), "v0-1-60-2.info")
	for _, p := range partNames() {
		want(t, "Name", file(t, key(3, 7, api.MaxTime, 999999), p), "v3-7-1099511627776-999999."+p)
		want(t, "Name", file(t, key(0, 0, 0, 1), p), "v0-0-0-1."+p)
		for _, k := range forbidden() {
			s, err := fileset.Name(k, p)
			want(t, fmt.Sprint(k), err, api.ErrArg)
			want(t, "name", s, "")
		}
	}
	for _, p := range []string{"", "Info", "info ", "checks", ".info"} {
		s, err := fileset.Name(key(0, 0, 0, 1), p)
		want(t, p, err, api.ErrArg)
		want(t, "name", s, "")
	}
}

// P10.2

func TestWriteErrors(t *testing.T) {
	long := strings.Repeat("x", api.MaxID)
	many := make([]api.Series, 257)
	for _, c := range []struct {
		k   fileset.Key
		l   []api.Series
		err api.Errno
	}{
		{key(4, 0, 0, 1), many, api.ErrArg},
		{key(0, 0, 0, 1), many, api.ErrMany},
		{key(0, 0, 0, 1), many[:256], api.ErrID},
		{key(0, 0, 0, 1), []api.Series{series(long + "x")}, api.ErrID},
		{key(0, 0, 0, 1), []api.Series{series(long)}, api.OK},
		{key(0, 0, 0, 1), []api.Series{series("b"), series("")}, api.ErrID},
		{key(0, 0, 0, 1), []api.Series{series("b"), series("b")}, api.ErrOrder},
		{key(0, 0, 0, 1), []api.Series{series("b"), series("a", pt(-1, 0, 0))}, api.ErrOrder},
		{key(0, 0, 0, 1), []api.Series{series("", pt(-1, 0, 0))}, api.ErrID},
		{key(0, 0, 0, 1), []api.Series{series("a", pt(-1, 0, 0)), series("")}, api.ErrArg},
		{key(0, 0, 0, 1), []api.Series{series("a", pt(api.MaxTime+1, 0, 0))}, api.ErrArg},
		{key(0, 0, 0, 1), []api.Series{series("a"), series("b", pt(5, 0, 0), pt(5, 0, 0))}, api.ErrOrder},
		{key(0, 0, 0, 1), []api.Series{series("a", make([]api.Point, 513)...)}, api.ErrMany},
		{key(0, 0, 0, 1), nil, api.OK},
		{key(3, 7, api.MaxTime, 999999), []api.Series{series("a", pt(5, 1, 1))}, api.OK},
	} {
		d := disk.New(1 << 20)
		want(t, fmt.Sprint(c.k, len(c.l)), fileset.Write(d, c.k, c.l), c.err)
		if c.err != api.OK {
			want(t, "raw calls", d.Ops(), 0)
		}
		want(t, "Valid", fileset.Valid(d, c.k), c.err == api.OK)
	}
	for _, k := range forbidden() {
		want(t, fmt.Sprint(k), fileset.Write(disk.New(1<<20), k, nil), api.ErrArg)
	}
	d := disk.New(1 << 20)
	d.Crash(0, 0)
	want(t, "errors before raw calls", fileset.Write(d, key(0, 0, 0, 1), many), api.ErrMany)
	want(t, "dead", fileset.Write(d, key(0, 0, 0, 1), nil), api.ErrDead)
}

// plain is what the files of a volume contain, by the words of the document.
func plain(k fileset.Key, l []api.Series) map[string]string {
	var info []byte
	for _, n := range []int{k.Space, k.Shard, k.Block, k.Volume, len(l)} {
		info = binary.AppendUvarint(info, uint64(n))
	}
	var ids []string
	var entries []index.Entry
	data := ""
	for _, s := range l {
		b, _ := tsz.Encode(s.Points)
		ids = append(ids, s.ID)
		entries = append(entries, index.Entry{ID: s.ID, Off: len(data), Size: len(b), Sum: adler32.Checksum(b)})
		data += string(b)
	}
	x, s, _ := index.Encode(entries)
	f, _ := bloom.Build(ids)
	m := map[string]string{"info": string(info), "index": string(x), "summary": string(s), "bloom": string(f.Bytes()), "data": data}
	for _, p := range partNames()[:5] {
		m["digest"] += adler(m[p])
	}
	m["check"] = adler(m["digest"])
	return m
}

// many is a list of n series, with points of their own.
func many(n int) []api.Series {
	var l []api.Series
	for i := range n {
		var ps []api.Point
		for j := range i % 7 {
			ps = append(ps, pt(10*j+i, uint64(i*j), uint64(j)))
		}
		l = append(l, series(fmt.Sprintf("s%03d", i), ps...))
	}
	return l
}

func TestWriteFiles(t *testing.T) {
	for _, n := range []int{0, 1, 3, 4, 5, 256} {
		for _, k := range []fileset.Key{key(0, 1, 60, 2), key(3, 7, api.MaxTime, 999999)} {
			d := disk.New(1 << 20)
			want(t, "Write", fileset.Write(d, k, many(n)), api.OK)
			want(t, "raw calls", d.Ops(), 9)
			want(t, "synced", d.Pending(), 0)
			want(t, "files", len(d.Names()), 7)
			for p, text := range plain(k, many(n)) {
				got, _ := d.Read(file(t, k, p))
				want(t, fmt.Sprint(n, " series: ", p), fmt.Sprintf("%x", got), fmt.Sprintf("%x", text))
			}
		}
	}
}

func TestWriteStepByStep(t *testing.T) {
	k := key(0, 0, 0, 1)
	for n := range 9 {
		d := disk.New(1 << 20)
		d.Cut(n, math.MaxInt, 0)
		want(t, "Write", fileset.Write(d, k, many(3)), api.ErrDead)
		var files []string
		for _, p := range partNames()[:min(n, 6)] {
			files = append(files, file(t, k, p))
		}
		if n == 8 {
			files = append(files, file(t, k, "check"))
		}
		slices.Sort(files)
		if got := d.Names(); !slices.Equal(got, files) {
			t.Errorf("after %d calls: got %v, want %v", n, got, files)
		}
		want(t, "nothing is synced early", fileset.Valid(d, k), n == 8)
	}
	for n := range 9 {
		d := disk.New(1 << 20)
		d.Cut(n, 0, 0)
		want(t, "Write", fileset.Write(d, k, many(3)), api.ErrDead)
		d.Power()
		files := 0
		if n >= 7 {
			files = 6
		}
		want(t, "files that were synced", len(d.Names()), files)
		keys(t, d)
		want(t, "Write again", fileset.Write(d, k, many(3)), api.OK)
		keys(t, d, k)
	}
}

func TestWriteRemovesWhatIsThere(t *testing.T) {
	k := key(0, 0, 0, 1)
	d := written(t, k, key(0, 0, 0, 2))
	d.Remove(file(t, k, "summary"))
	d.Append(file(t, k, "data"), "more")
	d.Sync()
	ops := d.Ops()
	want(t, "Write", fileset.Write(d, k, many(3)), api.OK)
	want(t, "raw calls", d.Ops()-ops, 6+9)
	keys(t, d, k, key(0, 0, 0, 2))
	for p, text := range plain(k, many(3)) {
		got, _ := d.Read(file(t, k, p))
		want(t, p, got, text)
	}
	// in the order of the parts
	for n := range 7 {
		c := d.Clone()
		c.Cut(n, math.MaxInt, 0)
		want(t, "Write", fileset.Write(c, k, many(3)), api.ErrDead)
		for i, p := range partNames() {
			_, ok := c.Read(file(t, k, p))
			want(t, fmt.Sprint(n, " calls: ", p), ok, i >= n)
		}
	}
}

func TestWriteWithoutRoom(t *testing.T) {
	k := key(0, 0, 0, 1)
	need := 0
	for _, text := range plain(k, many(3)) {
		need += len(text)
	}
	for room := range need + 1 {
		d := disk.New(room + 3)
		d.Append("xyz", "xyz")
		d.Append("v0-0-0-2.data", "")
		err := fileset.Write(d, k, many(3))
		if room == need {
			want(t, "enough room", err, api.OK)
			continue
		}
		want(t, "Write", err, api.ErrFull)
		if got := d.Names(); !slices.Equal(got, []string{"v0-0-0-2.data", "xyz"}) {
			t.Errorf("room %d: files are left: %v", room, got)
		}
		want(t, "synced", d.Pending(), 0)
	}
}

func TestWriteWithoutRoomAndPower(t *testing.T) {
	k := key(0, 0, 0, 1)
	sizes := plain(k, many(3))
	room := len(sizes["info"]) + len(sizes["index"])
	d := disk.New(room)
	want(t, "Write", fileset.Write(d, k, many(3)), api.ErrFull)
	want(t, "two appends, two removes, a sync", d.Ops(), 5)
	for n := 2; n < 5; n++ {
		d := disk.New(room)
		d.Cut(n, math.MaxInt, 0)
		want(t, "Write", fileset.Write(d, k, many(3)), api.ErrFull)
		want(t, "Dead", d.Dead(), true)
		want(t, "files that are left", len(d.Names()), 4-n)
		if n == 3 {
			want(t, "file that is left", d.Names()[0], file(t, k, "index"))
		}
	}
}

// P10.3

func TestValid(t *testing.T) {
	k := key(1, 2, 60, 3)
	whole := disk.New(1 << 20)
	fileset.Write(whole, k, many(5))
	want(t, "Valid", fileset.Valid(whole, k), true)
	for _, f := range forbidden() {
		want(t, "a key that is not permitted", fileset.Valid(whole, f), false)
	}
	for _, other := range []fileset.Key{key(0, 2, 60, 3), key(1, 1, 60, 3), key(1, 2, 61, 3), key(1, 2, 60, 4)} {
		want(t, "another key", fileset.Valid(whole, other), false)
	}
	for _, p := range partNames() {
		name := file(t, k, p)
		text, _ := whole.Read(name)
		put := func(d *disk.Disk, text string) {
			d.Remove(name)
			d.Append(name, text)
		}
		d := whole.Clone()
		d.Remove(name)
		want(t, "without "+p, fileset.Valid(d, k), false)
		keys(t, d)
		d = whole.Clone()
		d.Append(name, "\x00")
		want(t, "longer "+p, fileset.Valid(d, k), false)
		d = whole.Clone()
		put(d, text[:len(text)-1])
		want(t, "shorter "+p, fileset.Valid(d, k), false)
		for i := range text {
			d = whole.Clone()
			b := []byte(text)
			b[i] ^= 0x10
			put(d, string(b))
			want(t, "changed "+p, fileset.Valid(d, k), false)
		}
		put(d, text)
		want(t, "whole again", fileset.Valid(d, k), true)
		keys(t, d, k)
	}
}

func TestAnEmptyFileHasToExist(t *testing.T) {
	k := key(0, 0, 0, 1)
	whole := disk.New(1 << 20)
	want(t, "Write", fileset.Write(whole, k, nil), api.OK)
	for _, p := range []string{"index", "summary", "data"} {
		text, ok := whole.Read(file(t, k, p))
		want(t, "an empty file", ok && text == "", true)
		d := whole.Clone()
		d.Remove(file(t, k, p))
		want(t, "without "+p, fileset.Valid(d, k), false)
		keys(t, d)
	}
}

func TestAKeyThatIsNotPermittedIsNotValid(t *testing.T) {
	for _, k := range forbidden() {
		d := disk.New(1 << 20)
		sums := ""
		for i, p := range partNames() {
			text := ""
			switch {
			case i < 5:
				sums += adler("")
			case i == 5:
				text = sums
			default:
				text = adler(sums)
			}
			if name := fmt.Sprintf("v%d-%d-%d-%d.%s", k.Space, k.Shard, k.Block, k.Volume, p); len(name) <= api.MaxFile {
				d.Append(name, text)
			}
		}
		files := len(d.Names())
		want(t, fmt.Sprint(k), fileset.Valid(d, k), false)
		keys(t, d)
		want(t, "Clean", fileset.Clean(d), api.OK)
		want(t, "files of others", len(d.Names()), files)
		_, err := fileset.Open(d, k)
		want(t, "Open", err, api.ErrArg)
	}
}

func TestContentsThatMakeNoSense(t *testing.T) {
	k := key(0, 0, 0, 1)
	good, _ := tsz.Encode([]api.Point{pt(1, 1, 1)})
	for what, e := range map[string]index.Entry{
		"past the data":   {ID: "a", Off: 1, Size: len(good)},
		"far past it":     {ID: "a", Off: 1<<31 - 1, Size: 1<<31 - 1},
		"not the points":  {ID: "a", Off: 1, Size: 5},
		"nothing":         {ID: "a"},
		"half the points": {ID: "a", Size: len(good) - 1},
	} {
		x, s, _ := index.Encode([]index.Entry{e})
		d := disk.New(1 << 20)
		sums := ""
		for i, text := range []string{"", string(x), string(s), strings.Repeat("\xff", 8), string(good)} {
			d.Append(file(t, k, partNames()[i]), text)
			sums += adler(text)
		}
		d.Append(file(t, k, "digest"), sums)
		d.Append(file(t, k, "check"), adler(sums))
		r, err := fileset.Open(d, k)
		want(t, what, err, api.OK)
		l, ok := r.Read("a")
		want(t, what, ok, false)
		want(t, what, len(l), 0)
		m, ok := r.Meta("a")
		want(t, what, ok, false)
		want(t, what, m, api.Meta{})
	}
}

func TestValidLooksAtChecksumsOnly(t *testing.T) {
	k := key(0, 0, 0, 1)
	d := disk.New(1 << 20)
	sums := ""
	for i, p := range partNames()[:5] {
		text := strings.Repeat("?", i)
		d.Append(file(t, k, p), text)
		sums += adler(text)
	}
	d.Append(file(t, k, "digest"), sums)
	d.Append(file(t, k, "check"), adler(sums))
	want(t, "Valid", fileset.Valid(d, k), true)
	keys(t, d, k)
	r, err := fileset.Open(d, k)
	if err != api.OK {
		t.Fatal(err)
	}
	r.IDs()
	r.Read("?")
	r.Meta("?")
}

func TestList(t *testing.T) {
	keys(t, disk.New(100))
	all := []fileset.Key{
		key(0, 0, 0, 1), key(0, 0, 0, 2), key(0, 0, 0, 10), key(0, 0, 9, 1), key(0, 0, 10, 1), key(0, 0, 100, 1),
		key(0, 7, 0, 1), key(1, 0, 0, 5), key(3, 7, api.MaxTime, 999999),
	}
	mixed := slices.Clone(all)
	rand.New(rand.NewSource(1)).Shuffle(len(mixed), func(i, j int) { mixed[i], mixed[j] = mixed[j], mixed[i] })
	d := written(t, mixed...)
	for _, p := range partNames() { // names that are no part's name, with the contents of a valid volume
		text, _ := d.Read(file(t, all[0], p))
		for _, s := range []string{"v00-0-0-1.", "v0-00-0-1.", "v0-0-00-1.", "v0-0-0-01.", "v+0-0-0-3.", "v0-0-0-0.", "v4-0-0-1.", "v0-8-0-1.", "w0-0-0-3.", "0-0-0-3.", "vv0-0-0-3.", "v0-0-3.", "v0-0-0-3-3.", "v-0-0-0-3.", "v0-0-0-3..", "v0-0-0-1000000."} {
			d.Append(s+p, text)
		}
	}
	ops := d.Ops()
	keys(t, d, all...)
	want(t, "raw calls", d.Ops(), ops)
	d.Crash(0, 0)
	keys(t, d, all...)
}

func TestClean(t *testing.T) {
	d := written(t, key(0, 0, 0, 1), key(0, 0, 0, 2), key(0, 0, 0, 10), key(0, 0, 60, 1), key(1, 0, 0, 1), key(1, 0, 0, 2), key(0, 1, 0, 1))
	d.Append("v0-0-0-11.data", "an incomplete volume")
	d.Append("v0-1-0-9.check", "an incomplete volume")
	d.Remove("v1-0-0-2.bloom")
	d.Append("v0-0-0-1.other", "")
	d.Append("v0-0-0-01.data", "")
	d.Append("log-1", "")
	d.Sync()
	removed := 7 + 7 + 1 + 1 + 6
	files, ops := len(d.Names()), d.Ops()
	want(t, "Clean", fileset.Clean(d), api.OK)
	want(t, "raw calls", d.Ops()-ops, removed+1)
	want(t, "synced", d.Pending(), 0)
	want(t, "files", len(d.Names()), files-removed)
	left := []fileset.Key{key(0, 0, 0, 10), key(0, 0, 60, 1), key(0, 1, 0, 1), key(1, 0, 0, 1)}
	keys(t, d, left...)
	for _, s := range []string{"v0-0-0-1.other", "v0-0-0-01.data", "log-1"} {
		if _, ok := d.Read(s); !ok {
			t.Error("Clean removes", s)
		}
	}
	ops = d.Ops()
	want(t, "Clean", fileset.Clean(d), api.OK)
	want(t, "nothing to do", d.Ops(), ops)
	d.Crash(0, 0)
	want(t, "nothing to do without power", fileset.Clean(d), api.OK)
	keys(t, d, left...)
}

func TestCleanInOrder(t *testing.T) {
	whole := written(t, key(0, 0, 0, 1), key(0, 0, 0, 2), key(0, 0, 0, 10), key(0, 0, 60, 1))
	whole.Append("v0-0-60-2.info", "")
	whole.Sync()
	var order []string
	for _, s := range whole.Names() {
		if !strings.HasPrefix(s, "v0-0-0-10.") && !strings.HasPrefix(s, "v0-0-60-1.") {
			order = append(order, s)
		}
	}
	for n := range len(order) + 1 {
		d := whole.Clone()
		d.Cut(n, math.MaxInt, 0)
		want(t, "Clean", fileset.Clean(d), api.ErrDead)
		for i, s := range order {
			_, ok := d.Read(s)
			want(t, fmt.Sprint(n, " calls: ", s), ok, i >= n)
		}
		d.Power()
		want(t, "Clean", fileset.Clean(d), api.OK)
		keys(t, d, key(0, 0, 0, 10), key(0, 0, 60, 1))
	}
}

// P10.4

func TestOpen(t *testing.T) {
	k := key(0, 1, 60, 2)
	d := disk.New(1 << 20)
	for _, f := range forbidden() {
		r, err := fileset.Open(d, f)
		want(t, "a key that is not permitted", err, api.ErrArg)
		want(t, "reader", r, nil)
	}
	r, err := fileset.Open(d, k)
	want(t, "no volume", err, api.ErrNone)
	want(t, "reader", r, nil)
	fileset.Write(d, k, many(20))
	d.Remove(file(t, k, "check"))
	r, err = fileset.Open(d, k)
	want(t, "no valid volume", err, api.ErrNone)
	want(t, "reader", r, nil)
}

func TestReader(t *testing.T) {
	k := key(0, 1, 60, 2)
	for _, n := range []int{0, 1, 20, 256} {
		d := disk.New(1 << 20)
		l := many(n)
		fileset.Write(d, k, l)
		r, err := fileset.Open(d, k)
		want(t, "Open", err, api.OK)
		var ids []string
		for _, s := range l {
			ids = append(ids, s.ID)
			got, ok := r.Read(s.ID)
			if !ok || !slices.Equal(got, s.Points) {
				t.Errorf("Read(%q): got %v, %v, want %v", s.ID, got, ok, s.Points)
			}
			sum, _ := tsz.Sum(s.Points)
			m, ok := r.Meta(s.ID)
			want(t, "Meta", m, api.Meta{ID: s.ID, Block: 60, Count: len(s.Points), Sum: sum})
			want(t, "Meta", ok, true)
		}
		if got := r.IDs(); !slices.Equal(got, ids) {
			t.Errorf("IDs: got %v, want %v", got, ids)
		}
		for _, id := range []string{"", "a", "s", "s0001", "s999", "t", strings.Repeat("s", 100), "s010\x00", "s256"} {
			got, ok := r.Read(id)
			want(t, "no such series", ok, false)
			want(t, "no such series", len(got), 0)
			m, ok := r.Meta(id)
			want(t, "no such series", ok, false)
			want(t, "no such series", m, api.Meta{})
		}
	}
}

func TestReaderStays(t *testing.T) {
	k := key(0, 0, 0, 1)
	d := disk.New(1 << 20)
	l := []api.Series{series("a", pt(1, 5, 2), pt(2, 6, 3))}
	fileset.Write(d, k, l)
	r, _ := fileset.Open(d, k)
	l[0].Points[0].V = 9
	fileset.Write(d, k, many(3))
	fileset.Clean(d)
	d.Remove(file(t, k, "data"))
	got, _ := r.Read("a")
	if !slices.Equal(got, []api.Point{pt(1, 5, 2), pt(2, 6, 3)}) {
		t.Error(got)
	}
	got[0].V = 7
	_ = append(got, pt(9, 9, 9))
	got, _ = r.Read("a")
	want(t, "a result is apart", got[0], pt(1, 5, 2))
	ids := r.IDs()
	ids[0] = "z"
	want(t, "a result is apart", r.IDs()[0], "a")
}

// P10.5

func TestVolumesSurvive(t *testing.T) {
	for seed := range int64(300) {
		r := rand.New(rand.NewSource(seed))
		d := disk.New(400 + r.Intn(2000))
		good := map[fileset.Key]uint64{} // what their point has as its value
		for n := range 25 {
			if r.Intn(3) == 0 {
				d.Cut(r.Intn(14), r.Intn(8), r.Intn(9))
			}
			k := key(0, 0, 60*r.Intn(2), 1+n)
			switch err := fileset.Write(d, k, []api.Series{series("a", pt(k.Block, uint64(n), 1))}); err {
			case api.OK:
				good[k] = uint64(n)
			case api.ErrFull:
				want(t, "no valid volume", fileset.Valid(d, k), false)
			}
			if r.Intn(3) == 0 {
				fileset.Clean(d)
			}
			if r.Intn(2) == 0 {
				d.Crash(r.Intn(3), r.Intn(5))
			}
			d.Power()
			last := map[int]fileset.Key{}
			for k := range good {
				if k.Volume > last[k.Block].Volume {
					last[k.Block] = k
				}
			}
			for _, k := range last {
				if slices.ContainsFunc(fileset.List(d), func(l fileset.Key) bool { return l.Block == k.Block && l.Volume > k.Volume }) {
					continue // of a Write that was cut off all was kept, and Clean may have removed k
				}
				x, err := fileset.Open(d, k)
				if err != api.OK {
					t.Fatalf("seed %d: %v: %v", seed, k, err)
				}
				got, _ := x.Read("a")
				if !slices.Equal(got, []api.Point{pt(k.Block, good[k], 1)}) {
					t.Fatalf("seed %d: %v: got %v", seed, k, got)
				}
			}
		}
	}
}
