// Package num is layer 1: numbers as bytes. See shared/doc/01-num.md.
package num

const (
	shortBits = 7          // bits of a number in a byte of a short number
	goesOn    = 0x80       // the bit that says that a byte isn't the last one
	mostShort = 10         // bytes of the longest short number: 9 of 7 bits, and one of 1 bit
	wordLen   = 4          // bytes of a number of 32 bits
	keyLen    = 8          // bytes of a number in order
	signShift = 1 << 63    // what lifts the least number with a sign to 0
	lowBits   = goesOn - 1 // the bits of a byte that belong to the number
)

// Put: a short number.
func Put(v uint64) []byte {
	var out []byte
	for v >= goesOn {
		out = append(out, byte(v)|goesOn)
		v >>= shortBits
	}
	return append(out, byte(v))
}

// Get: the short number with which bytes begin, and how many it has.
func Get(b []byte) (uint64, int) {
	var v uint64
	readLast := func(i int) bool {
		v |= uint64(b[i]&lowBits) << (shortBits * i)
		return b[i] < goesOn
	}
	for i := range min(len(b), mostShort) {
		if !readLast(i) {
			continue
		}
		if !mayEnd(b[i], i) {
			break
		}
		return v, i + 1
	}
	return 0, 0
}

// mayEnd: whether a short number may have this last byte at place i. A last byte of 0 behind others makes it longer than it need be; at the last place there is only one bit left of the 64.
func mayEnd(last byte, i int) bool {
	if i == mostShort-1 {
		return last == 1
	}
	return i == 0 || last != 0
}

// PutInt: a short number with a sign.
func PutInt(v int64) []byte {
	if v >= 0 {
		return Put(2 * uint64(v))
	}
	// -2v - 1, in steps none of which leaves its bits, for the least number neither.
	return Put(2*uint64(-(v+1)) + 1)
}

// GetInt: the short number with a sign with which bytes begin, and how many it has.
func GetInt(b []byte) (int64, int) {
	v, n := Get(b)
	half := int64(v / 2)
	if v%2 == 0 {
		return half, n
	}
	return -half - 1, n
}

// Key: a number in order.
func Key(v uint64) []byte {
	return greatestFirst(v, keyLen)
}

// Unkey: the number of 8 bytes.
func Unkey(b []byte) (uint64, bool) {
	if len(b) != keyLen {
		return 0, false
	}
	return fromGreatest(b), true
}

// KeyInt: a number with a sign, in order.
func KeyInt(v int64) []byte {
	return Key(uint64(v) ^ signShift)
}

// UnkeyInt: the number with a sign of 8 bytes.
func UnkeyInt(b []byte) (int64, bool) {
	v, ok := Unkey(b)
	if !ok {
		return 0, false
	}
	return int64(v ^ signShift), true
}

// Put32: four bytes, the greatest first.
func Put32(v uint32) []byte {
	return greatestFirst(uint64(v), wordLen)
}

// Get32: the number of four bytes.
func Get32(b []byte) uint32 {
	// Bytes that there aren't stay 0 in the array.
	var four [wordLen]byte
	copy(four[:], b)
	return uint32(fromGreatest(four[:]))
}

// greatestFirst: the n least bytes of a number, the greatest of them first.
func greatestFirst(v uint64, n int) []byte {
	out := make([]byte, n)
	for i := range n {
		out[n-1-i] = byte(v >> (8 * i))
	}
	return out
}

// fromGreatest: the number of at most 8 bytes, the greatest first.
func fromGreatest(b []byte) uint64 {
	var v uint64
	for i := range len(b) {
		v = v<<8 | uint64(b[i])
	}
	return v
}
