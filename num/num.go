// Package num is layer 1: numbers as bytes, shifts by however much, and what is left of a number in a smaller type.
package num

const (
	mostBytes = 8    // bytes of the greatest number
	more      = 0x80 // the bit of a byte behind which others of its number stand
	ninth     = 9    // the index of the last byte that a number in sevens can have
)

// Put is n modulo 2^(8 times width) in so many bytes, the lowest first; nothing, if width is not 1 to 8.
func Put(n uint64, width int) []byte {
	if width < 1 || width > mostBytes {
		return nil
	}
	b := make([]byte, width)
	for i := range b {
		b[i] = byte(n >> (8 * uint(i)))
	}
	return b
}

// Get is the number of the first bytes, eight at most, the lowest first.
func Get(b []byte) uint64 {
	var n uint64
	for i := 0; i < len(b) && i < mostBytes; i++ {
		n |= uint64(b[i]) << (8 * uint(i))
	}
	return n
}

// Signed is the number that so many low bits are, with a sign.
func Signed(n uint64, bits int) int64 {
	if bits <= 0 {
		return 0
	}
	if bits >= 64 {
		return int64(n)
	}
	unused := 64 - uint(bits)
	return int64(n<<unused) >> unused
}

// Fold lays numbers with signs among those without: 0, -1, 1, -2 are 0, 1, 2, 3.
func Fold(v int64) uint64 {
	return uint64(v)<<1 ^ uint64(v>>63)
}

// Unfold is the number whose Fold is n.
func Unfold(n uint64) int64 {
	return int64(n>>1) ^ -int64(n&1)
}

// Left is n times 2^by, modulo 2^64.
func Left(n, by uint64) uint64 { return n << by }

// Right is n divided by 2^by, rounded downwards.
func Right(n, by uint64) uint64 { return n >> by }

// Arith is v divided by 2^by, rounded downwards.
func Arith(v int64, by uint64) int64 { return v >> by }

// Turn is n with each bit by places higher, round the end.
func Turn(n uint64, by int) uint64 {
	up := uint(by) & 63
	down := -up & 63
	return n<<up | n>>down
}

// Narrow is a number in smaller types: unsigned of 8, 16, 32 bits, then signed.
func Narrow(n uint64) [6]int64 {
	return [6]int64{
		int64(uint8(n)), int64(uint16(n)), int64(uint32(n)),
		int64(int8(n)), int64(int16(n)), int64(int32(n)),
	}
}

// Long is a number in as many bytes as it needs, seven bits in each, the lowest first.
func Long(n uint64) []byte {
	var b []byte
	for n >= more {
		b = append(b, byte(n)|more)
		n >>= 7
	}
	return append(b, byte(n))
}

// Short is the number whose Long b begins with, and how many bytes that has; 0 and 0, if there is none.
func Short(b []byte) (uint64, int) {
	var n uint64
	for i, c := range b {
		if i == ninth && c > 1 {
			return 0, 0 // more than 64 bits
		}
		n |= uint64(c&(more-1)) << (7 * uint(i))
		if c >= more {
			continue
		}
		if c == 0 && i > 0 {
			return 0, 0 // a byte more than the number needs
		}
		return n, i + 1
	}
	return 0, 0
}
