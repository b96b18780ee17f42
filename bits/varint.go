package bits

// Uvarint returns b and, after it, the shortest encoding of v in groups of seven bits.
func Uvarint(b []byte, v uint64) []byte {
	out := make([]byte, len(b), len(b)+10)
	copy(out, b)
	for v >= 0x80 {
		out = append(out, byte(v)|0x80)
		v >>= 7
	}
	return append(out, byte(v))
}

// ReadUvarint returns the number at the beginning of b and its length, or 0 and 0.
func ReadUvarint(b []byte) (uint64, int) {
	var v uint64
	for i, c := range b {
		if i == 9 && c > 1 { // nine groups leave one bit of 64
			break
		}
		v |= uint64(c&0x7f) << (7 * i)
		if c >= 0x80 {
			continue
		}
		if c == 0 && i > 0 { // a shorter encoding exists
			break
		}
		return v, i + 1
	}
	return 0, 0
}

// Zig maps integers to numbers, those near zero to small ones.
func Zig(n int) uint64 { return uint64(n)<<1 ^ uint64(n>>63) }

// Zag undoes Zig.
func Zag(v uint64) int { return int(v>>1) ^ -int(v&1) }
