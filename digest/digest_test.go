package digest_test

import (
	"bytes"
	"hash/adler32"
	"math"
	"math/big"
	"math/rand"
	"strings"
	"testing"

	"thermograph/digest"
)

// P4.1

func TestAdler(t *testing.T) {
	for _, c := range []struct {
		s   string
		sum uint32
	}{{"", 1}, {"a", 0x00620062}, {"Wikipedia", 0x11e60398}, {"\x00", 0x00010001}, {"\xff", 0x01000100}} {
		if got := digest.Adler([]byte(c.s)); got != c.sum {
			t.Errorf("Adler(%q): got %x, want %x", c.s, got, c.sum)
		}
	}
}

func TestAdlerOfLongInputs(t *testing.T) {
	r := rand.New(rand.NewSource(1))
	for _, n := range []int{1, 255, 256, 257, 5551, 5552, 5553, 6000, 70000, 1 << 20} {
		b := make([]byte, n)
		r.Read(b)
		ff := bytes.Repeat([]byte{0xff}, n)
		for _, b := range [][]byte{b, ff, make([]byte, n)} {
			if got, want := digest.Adler(b), adler32.Checksum(b); got != want {
				t.Errorf("%d bytes: got %x, want %x", n, got, want)
			}
		}
	}
}

// P4.2

func TestMurmur(t *testing.T) {
	for _, c := range []struct {
		s    string
		seed uint32
		hash uint32
	}{
		{"", 0, 0}, {"", 1, 0x514e28b7}, {"", 0xffffffff, 0x81f16f39},
		{"test", 0, 0xba6bd213}, {"test", 0x9747b28c, 0x704b81dc},
		{"\xff\xff\xff\xff", 0, 0x76293b50}, {"!Ce\x87", 0, 0xf55b516b}, {"!Ce\x87", 0x5082edee, 0x2362f9de},
		{"!Ce", 0, 0x7e4a8634}, {"!C", 0, 0xa0f7b07a}, {"!", 0, 0x72661cf4},
		{"\x00\x00\x00\x00", 0, 0x2362f9de}, {"\x00\x00\x00", 0, 0x85f0b427}, {"\x00\x00", 0, 0x30f4c306}, {"\x00", 0, 0x514e28b7},
		{"Hello, world!", 0, 0xc0363e43}, {"Hello, world!", 0x9747b28c, 0x24884cba},
		{"The quick brown fox jumps over the lazy dog", 0, 0x2e4ff723},
		{"The quick brown fox jumps over the lazy dog", 0x9747b28c, 0x2fa826cd},
	} {
		if got := digest.Murmur([]byte(c.s), c.seed); got != c.hash {
			t.Errorf("Murmur(%q, %x): got %x, want %x", c.s, c.seed, got, c.hash)
		}
	}
}

// plain computes the hash with unlimited numbers, by the words of the document.
func plain(b []byte, seed uint32) uint32 {
	cut := func(x *big.Int) uint64 { return new(big.Int).And(x, big.NewInt(math.MaxUint32)).Uint64() }
	mul := func(x, y uint64) uint64 {
		return cut(new(big.Int).Mul(new(big.Int).SetUint64(x), new(big.Int).SetUint64(y)))
	}
	rot := func(x uint64, n int) uint64 { return (x<<n | x>>(32-n)) & math.MaxUint32 }
	mix := func(k uint64) uint64 { return mul(rot(mul(k, 0xcc9e2d51), 15), 0x1b873593) }
	h := uint64(seed)
	for i := 0; i < len(b); i += 4 {
		k := uint64(0)
		for j := min(i+4, len(b)) - 1; j >= i; j-- {
			k = 256*k + uint64(b[j])
		}
		h ^= mix(k)
		if i+4 <= len(b) {
			h = (mul(rot(h, 13), 5) + 0xe6546b64) & math.MaxUint32
		}
	}
	h ^= uint64(len(b))
	h = mul(h^h>>16, 0x85ebca6b)
	h = mul(h^h>>13, 0xc2b2ae35)
	return uint32(h ^ h>>16)
}

func TestMurmurOfAllLengths(t *testing.T) {
	r := rand.New(rand.NewSource(2))
	for n := range 300 {
		b := make([]byte, n)
		r.Read(b)
		seed := r.Uint32()
		keep := bytes.Clone(b)
		if got, want := digest.Murmur(b, seed), plain(b, seed); got != want {
			t.Errorf("%d bytes: got %x, want %x", n, got, want)
		}
		if !bytes.Equal(b, keep) {
			t.Error("the bytes have changed")
		}
	}
}

// P4.3

func TestShard(t *testing.T) {
	if got := digest.Shard("test", math.MaxInt); got != 0xba6bd213 {
		t.Errorf("many shards: got %x", got)
	}
	if got := digest.Shard("test", 1<<32); got != 0xba6bd213 {
		t.Errorf("2^32 shards: got %x", got)
	}
	for _, shards := range []int{0, -1, math.MinInt, 1} {
		for _, id := range []string{"test", "a", ""} {
			if got := digest.Shard(id, shards); got != 0 {
				t.Errorf("Shard(%q, %d): got %d", id, shards, got)
			}
		}
	}
	for shards := 2; shards < 100; shards++ {
		if got, want := digest.Shard("test", shards), 0xba6bd213%shards; got != want {
			t.Errorf("Shard(test, %d): got %d, want %d", shards, got, want)
		}
	}
}

// P4.4

func TestShardsAreInRange(t *testing.T) {
	seen := map[int]int{}
	for i := range 4000 {
		id := strings.Repeat("x", i%17) + string(rune(i))
		s := digest.Shard(id, 8)
		if s < 0 || s > 7 {
			t.Fatalf("Shard(%q, 8): got %d", id, s)
		}
		seen[s]++
	}
	for s := range 8 {
		if seen[s] < 300 {
			t.Errorf("shard %d: only %d names", s, seen[s])
		}
	}
}

func TestAdlerTellsOneChangedByte(t *testing.T) {
	r := rand.New(rand.NewSource(3))
	for range 2000 {
		b := make([]byte, 1+r.Intn(4000))
		r.Read(b)
		sum := digest.Adler(b)
		b[r.Intn(len(b))] += byte(1 + r.Intn(255))
		if digest.Adler(b) == sum {
			t.Fatal("a byte has changed, the checksum has not")
		}
	}
}
