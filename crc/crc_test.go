package crc_test

import (
	"bytes"
	"hash/crc32"
	"math"
	"math/rand"
	"testing"

	"cambium/crc"
)

// plain: the sum by the chapter's words, one bit at a time. It starts at what had a sum, so that it tells of More, too.
func plain(sum uint32, b []byte) uint32 {
	state := sum ^ 0xFFFFFFFF
	for _, c := range b {
		state ^= uint32(c)
		for range 8 {
			fell := state & 1
			state >>= 1
			if fell == 1 {
				state ^= 0x82F63B78
			}
		}
	}
	return state ^ 0xFFFFFFFF
}

// rows: rows of bytes as they come, without one and with more than a page.
func rows() [][]byte {
	random := rand.New(rand.NewSource(3))
	out := [][]byte{
		nil,
		{},
		[]byte("123456789"),
		[]byte("GET /v1/users"),
		bytes.Repeat([]byte{0}, 32),
		bytes.Repeat([]byte{0xFF}, 32),
	}
	for _, n := range []int{1, 2, 3, 4, 5, 7, 8, 9, 15, 16, 17, 63, 64, 65, 255, 256, 257, 1016, 1024, 5000} {
		b := make([]byte, n)
		random.Read(b)
		out = append(out, b)
	}
	return out
}

func TestSumOfKnownRows(t *testing.T) {
	up, down := make([]byte, 32), make([]byte, 32)
	for i := range 32 {
		up[i], down[i] = byte(i), byte(31-i)
	}
	for _, c := range []struct {
		name string
		b    []byte
		want uint32
	}{
		{"the chapter's example", []byte("123456789"), 0xE3069283},
		{"nil", nil, 0},
		{"no bytes", []byte{}, 0},
		{"one 0", []byte{0}, 0x527D5351},
		{"a", []byte("a"), 0xC1D04330},
		{"32 times 0", make([]byte, 32), 0x8A9136AA},
		{"32 times FF", bytes.Repeat([]byte{0xFF}, 32), 0x62A8AB43},
		{"0 to 31", up, 0x46DD794E},
		{"31 to 0", down, 0x113FDB5C},
	} {
		if got := crc.Sum(c.b); got != c.want {
			t.Errorf("P3.1: Sum of %s: %08X, not %08X", c.name, got, c.want)
		}
	}
}

func TestSumOfEachByte(t *testing.T) {
	seen := map[uint32]int{}
	for i := range 256 {
		b := []byte{byte(i)}
		got := crc.Sum(b)
		if want := plain(0, b); got != want {
			t.Errorf("P3.1: Sum(%02X): %08X, not %08X", i, got, want)
		}
		if other, ok := seen[got]; ok {
			t.Errorf("P3.2: %02X and %02X have one sum", i, other)
		}
		seen[got] = i
	}
}

func TestSumAsTheWordsSayIt(t *testing.T) {
	table := crc32.MakeTable(crc32.Castagnoli)
	for _, b := range rows() {
		got := crc.Sum(b)
		if want := plain(0, b); got != want {
			t.Errorf("P3.1: Sum of %d bytes: %08X, not %08X", len(b), got, want)
		}
		if want := crc32.Checksum(b, table); got != want {
			t.Errorf("P3.1: Sum of %d bytes: %08X, by the library %08X", len(b), got, want)
		}
	}
}

func TestMoreFromAnySum(t *testing.T) {
	table := crc32.MakeTable(crc32.Castagnoli)
	for _, sum := range []uint32{0, 1, 0xF, 0x10, 0xFF, 0x82F63B78, 0xE3069283, 1 << 31, math.MaxUint32 - 1, math.MaxUint32} {
		for i := range 256 {
			b := []byte{byte(i)}
			if got, want := crc.More(sum, b), plain(sum, b); got != want {
				t.Errorf("P3.1: More(%08X, %02X): %08X, not %08X", sum, i, got, want)
			}
		}
		for _, b := range rows() {
			got := crc.More(sum, b)
			if want := plain(sum, b); got != want {
				t.Errorf("P3.1: More(%08X, %d bytes): %08X, not %08X", sum, len(b), got, want)
			}
			if want := crc32.Update(sum, table, b); got != want {
				t.Errorf("P3.1: More(%08X, %d bytes): %08X, by the library %08X", sum, len(b), got, want)
			}
			if len(b) == 0 && got != sum {
				t.Errorf("P3.2: More(%08X, no bytes): %08X", sum, got)
			}
		}
	}
}

func TestPartsHaveTheWholesSum(t *testing.T) {
	for _, b := range rows() {
		whole := crc.Sum(b)
		for i := range len(b) + 1 {
			if got := crc.More(crc.Sum(b[:i]), b[i:]); got != whole {
				t.Fatalf("P3.2: %d bytes cut at %d: %08X, not %08X", len(b), i, got, whole)
			}
		}
		var single uint32
		for i := range b {
			single = crc.More(crc.More(single, nil), b[i:i+1])
		}
		if single != whole {
			t.Errorf("P3.2: %d bytes one by one: %08X, not %08X", len(b), single, whole)
		}
	}
}

func TestThreePartsHaveTheWholesSum(t *testing.T) {
	b := []byte("spans of one trace, and 9 more")
	whole := crc.Sum(b)
	for i := range len(b) + 1 {
		for j := i; j <= len(b); j++ {
			got := crc.More(crc.More(crc.Sum(b[:i]), b[i:j]), b[j:])
			if got != whole {
				t.Errorf("P3.2: cut at %d and %d: %08X, not %08X", i, j, got, whole)
			}
		}
	}
}

func TestOneBitTurnedIsAnotherSum(t *testing.T) {
	for _, b := range rows() {
		if len(b) > 1024 {
			continue
		}
		whole := crc.Sum(b)
		begun := crc.More(0xE3069283, b)
		for i := range 8 * len(b) {
			turned := bytes.Clone(b)
			turned[i/8] ^= 1 << (i % 8)
			if crc.Sum(turned) == whole {
				t.Errorf("P3.2: Sum of %d bytes with bit %d turned is the same", len(b), i)
			}
			if crc.More(0xE3069283, turned) == begun {
				t.Errorf("P3.2: More of %d bytes with bit %d turned is the same", len(b), i)
			}
		}
	}
}

func TestOneBitTurnedInASumIsAnotherSum(t *testing.T) {
	b := []byte("behind it")
	for i := range 32 {
		if crc.More(1<<i, b) == crc.More(0, b) {
			t.Errorf("P3.1: bit %d of what is handed to More isn't seen", i)
		}
	}
}

func TestBytesStayAsTheyWere(t *testing.T) {
	for _, b := range rows() {
		// Spare capacity behind the bytes, which mustn't be written either.
		room := append(bytes.Clone(b), "spare"...)
		was := bytes.Clone(room)
		given := room[:len(b)]
		first, behind := crc.Sum(given), crc.More(7, given)
		if !bytes.Equal(room, was) {
			t.Errorf("rules: %d bytes were changed", len(b))
		}
		if crc.Sum(given) != first || crc.More(7, given) != behind {
			t.Errorf("rules: %d bytes asked twice: another answer", len(b))
		}
		if crc.Sum(bytes.Clone(b)) != first {
			t.Errorf("rules: the sum of %d bytes hangs on the capacity", len(b))
		}
	}
}
