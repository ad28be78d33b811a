package page_test

import (
	"bytes"
	"encoding/binary"
	"hash/crc32"
	"math"
	"math/rand"
	"testing"

	"cambium/api"
	"cambium/page"
)

// plain: a page by the chapter's words. It takes any number of 32 bits, so that pages can be made that Frame doesn't make.
func plain(no uint32, pay []byte) []byte {
	out := make([]byte, 1016)
	copy(out, pay)
	out = binary.BigEndian.AppendUint32(out, no)
	return binary.BigEndian.AppendUint32(out, crc32.Checksum(out, crc32.MakeTable(crc32.Castagnoli)))
}

// pays: what pages say, without a byte and with as many as there may be.
func pays() [][]byte {
	random := rand.New(rand.NewSource(4))
	out := [][]byte{nil, {}, {0}, {0xFF}, []byte("hello"), make([]byte, 1016), bytes.Repeat([]byte{0xFF}, 1016)}
	for _, n := range []int{1, 2, 100, 1010, 1012, 1015, 1016} {
		b := make([]byte, n)
		random.Read(b)
		out = append(out, b)
	}
	return out
}

// goodNumbers: numbers that a page may have, each byte of them used.
func goodNumbers() []int {
	return []int{0, 1, 2, 7, 255, 256, 2047, 65535, 65536, 0x01020304, 0x7F000000, 1<<31 - 2, 1<<31 - 1}
}

// wrongNumbers: numbers that a page may not have, among them those that in 32 bits look like good ones.
func wrongNumbers() []int {
	return []int{-1, -2, -1 << 31, math.MinInt, 1 << 31, 1<<31 + 1, 1<<32 - 1, 1 << 32, 1<<32 + 7, math.MaxInt}
}

// frame: a page that must come out well.
func frame(t *testing.T, no int, pay []byte) []byte {
	t.Helper()
	b, e := page.Frame(no, pay)
	if e != api.OK {
		t.Fatalf("P4.1: Frame(%d, %d bytes): code %d", no, len(pay), e)
	}
	return b
}

// mustBeSum: opening says Sum, and nothing beside it.
func mustBeSum(t *testing.T, promise, what string, no int, b []byte) {
	t.Helper()
	x, e := page.Open(no, b)
	if e != api.Sum || len(x) != 0 {
		t.Errorf("%s: Open(%d, %s): %d bytes and code %d, not none and Sum", promise, no, what, len(x), e)
	}
}

func TestFrameOfKnownPages(t *testing.T) {
	for _, c := range []struct {
		no  int
		pay string
		end []byte
	}{
		{0, "", []byte{0, 0, 0, 0, 0xB6, 0x41, 0xCD, 0xE2}},
		{1, "x", []byte{0, 0, 0, 1, 0x83, 0x5B, 0xB7, 0x19}},
		{0x01020304, "hello", []byte{1, 2, 3, 4, 0x5D, 0x71, 0xF1, 0x50}},
	} {
		b := frame(t, c.no, []byte(c.pay))
		if len(b) != 1024 {
			t.Fatalf("P4.1: Frame(%d, %q): %d bytes", c.no, c.pay, len(b))
		}
		if !bytes.Equal(b[1016:], c.end) {
			t.Errorf("P4.1: Frame(%d, %q) ends with % X, not % X", c.no, c.pay, b[1016:], c.end)
		}
		if string(b[:len(c.pay)]) != c.pay || len(bytes.Trim(b[len(c.pay):1016], "\x00")) != 0 {
			t.Errorf("P4.1: Frame(%d, %q) says % X", c.no, c.pay, b[:1016])
		}
	}
}

func TestFrameByTheChaptersWords(t *testing.T) {
	for _, no := range goodNumbers() {
		for _, pay := range pays() {
			got := frame(t, no, pay)
			if want := plain(uint32(no), pay); !bytes.Equal(got, want) {
				t.Errorf("P4.1: Frame(%d, %d bytes): % X, not % X", no, len(pay), got, want)
			}
		}
	}
}

func TestFrameOfWhatMayNotBe(t *testing.T) {
	check := func(no int, pay []byte) {
		t.Helper()
		if b, e := page.Frame(no, pay); e != api.Arg || len(b) != 0 {
			t.Errorf("P4.1: Frame(%d, %d bytes): %d bytes and code %d, not none and Arg", no, len(pay), len(b), e)
		}
	}
	for _, no := range wrongNumbers() {
		check(no, nil)
		check(no, []byte("hello"))
		check(no, make([]byte, 1016))
		check(no, make([]byte, 1017))
	}
	for _, no := range goodNumbers() {
		for _, n := range []int{1017, 1018, 1020, 1024, 5000} {
			check(no, make([]byte, n))
		}
	}
}

func TestOpenByTheChaptersWords(t *testing.T) {
	for _, no := range goodNumbers() {
		for _, pay := range pays() {
			got, e := page.Open(no, plain(uint32(no), pay))
			want := make([]byte, 1016)
			copy(want, pay)
			if e != api.OK || !bytes.Equal(got, want) {
				t.Errorf("P4.1: Open(%d) of a page that says %d bytes: % X and code %d, not % X", no, len(pay), got, e, want)
			}
		}
	}
}

func TestOpenOfWrongNumbers(t *testing.T) {
	for _, no := range wrongNumbers() {
		// The page has just the 32 bits of the number that is asked for, and a right sum.
		mustBeSum(t, "P4.1", "a page of those 32 bits", no, plain(uint32(no), []byte("hello")))
		mustBeSum(t, "P4.1", "a page of number 0", no, plain(0, nil))
		mustBeSum(t, "P4.1", "no bytes", no, nil)
	}
	for _, high := range []uint32{1 << 31, 1<<31 + 7, math.MaxUint32} {
		mustBeSum(t, "P4.1", "a page whose number is beyond those that may be", int(high&^(1<<31)), plain(high, nil))
	}
}

func TestOpenOfOtherNumbers(t *testing.T) {
	for _, had := range goodNumbers() {
		b := plain(uint32(had), []byte("hello"))
		for bit := range 31 {
			mustBeSum(t, "P4.1", "a page of another number", had^1<<bit, b)
		}
	}
}

func TestOpenOfOtherLengths(t *testing.T) {
	whole := plain(7, []byte("hello"))
	long := append(bytes.Clone(whole), make([]byte, 2000)...)
	mustBeSum(t, "P4.1", "nil", 7, nil)
	for _, n := range []int{0, 1, 4, 8, 1016, 1019, 1020, 1022, 1023, 1025, 1028, 2048, 3024} {
		mustBeSum(t, "P4.1", "the beginning of bytes that begin with a page", 7, long[:n])
	}
	mustBeSum(t, "P4.1", "a page without its first byte", 7, whole[1:])
	mustBeSum(t, "P4.1", "a page behind a byte", 7, append([]byte{0}, whole...))
	// As long as they are, these end with their number and their sum.
	for _, n := range []int{0, 1, 1015, 1017, 2040} {
		b := binary.BigEndian.AppendUint32(make([]byte, n), 7)
		b = binary.BigEndian.AppendUint32(b, crc32.Checksum(b, crc32.MakeTable(crc32.Castagnoli)))
		mustBeSum(t, "P4.1", "a page of another length with a right sum", 7, b)
	}
}

func TestOpenWithAnyBitTurned(t *testing.T) {
	for _, no := range []int{0, 7, 1<<31 - 1} {
		b := frame(t, no, []byte("hello"))
		for i := range b {
			for bit := range 8 {
				c := bytes.Clone(b)
				c[i] ^= 1 << bit
				if x, e := page.Open(no, c); e != api.Sum || len(x) != 0 {
					t.Errorf("P4.1: Open(%d) of a page with bit %d of byte %d turned: %d bytes and code %d", no, bit, i, len(x), e)
				}
			}
		}
	}
}

func TestOpenOfWhatIsNoPage(t *testing.T) {
	mustBeSum(t, "P4.1", "bytes 0 alone", 0, make([]byte, 1024))
	ones := bytes.Repeat([]byte{0xFF}, 1024)
	mustBeSum(t, "P4.1", "bytes FF alone", -1, ones)
	mustBeSum(t, "P4.1", "bytes FF alone", 1<<31-1, ones)
	// A sum over what the page says alone isn't the page's.
	b := plain(7, []byte("hello"))
	binary.BigEndian.PutUint32(b[1020:], crc32.Checksum(b[:1016], crc32.MakeTable(crc32.Castagnoli)))
	mustBeSum(t, "P4.1", "a page summed without its number", 7, b)
	// Nor is the right sum with its least byte first.
	c := plain(7, []byte("hello"))
	binary.LittleEndian.PutUint32(c[1020:], binary.BigEndian.Uint32(c[1020:]))
	mustBeSum(t, "P4.1", "a page whose sum is turned round", 7, c)
}

func TestTorn(t *testing.T) {
	if got := page.Torn(nil); len(got) != 0 {
		t.Errorf("P4.2: Torn(nil): % X", got)
	}
	if got := page.Torn([]byte{}); len(got) != 0 {
		t.Errorf("P4.2: Torn of no bytes: % X", got)
	}
	for i := range 256 {
		if got := page.Torn([]byte{byte(i)}); !bytes.Equal(got, []byte{byte(255 - i)}) {
			t.Errorf("P4.2: Torn(%02X): % X", i, got)
		}
	}
	for _, n := range []int{2, 3, 1016, 1020, 1023, 1024, 1025, 4000} {
		b := make([]byte, n)
		rand.New(rand.NewSource(int64(n))).Read(b)
		want := append(bytes.Clone(b[:n-1]), 255-b[n-1])
		got := page.Torn(b)
		if !bytes.Equal(got, want) {
			t.Errorf("P4.2: Torn of %d bytes ends with % X, not % X", n, got[max(0, len(got)-2):], want[n-2:])
		}
		if again := page.Torn(got); !bytes.Equal(again, b) {
			t.Errorf("P4.2: %d bytes torn twice aren't what they were", n)
		}
	}
}

func TestWhatWasFramedIsOpenedAtItsPlaceAlone(t *testing.T) {
	for _, pay := range pays() {
		want := make([]byte, 1016)
		copy(want, pay)
		for _, had := range goodNumbers() {
			b := frame(t, had, pay)
			for _, no := range append(goodNumbers(), wrongNumbers()...) {
				if no != had {
					mustBeSum(t, "P4.3", "a page of another place", no, b)
					continue
				}
				if got, e := page.Open(no, b); e != api.OK || !bytes.Equal(got, want) {
					t.Errorf("P4.3: Open(%d) of what was framed there: % X and code %d, not % X", no, got, e, want)
				}
			}
		}
	}
}

func TestTornIsNotOpened(t *testing.T) {
	for _, pay := range pays() {
		for _, no := range goodNumbers() {
			torn := page.Torn(frame(t, no, pay))
			if len(torn) != 1024 {
				t.Fatalf("P4.2: a torn page of %d bytes", len(torn))
			}
			mustBeSum(t, "P4.3", "a torn page", no, torn)
		}
	}
}

func TestTheChaptersExample(t *testing.T) {
	for _, x := range pays() {
		mustBeSum(t, "P4.3", "Frame(1, x)", 2, frame(t, 1, x))
	}
}

// withRoom: the bytes between others that a call has no business with, and the whole of them.
func withRoom(b []byte) (part, whole []byte) {
	whole = append(append([]byte("ahead"), b...), bytes.Repeat([]byte{0xA5}, 2100)...)
	return whole[5 : 5+len(b)], whole
}

func TestWhatIsHandedInStays(t *testing.T) {
	for _, b := range [][]byte{{}, {1}, []byte("hello"), make([]byte, 1016), make([]byte, 1017), plain(7, []byte("hello"))} {
		part, whole := withRoom(b)
		was := bytes.Clone(whole)
		for _, no := range []int{7, 8, -1} {
			page.Frame(no, part)
			page.Open(no, part)
			page.Torn(part)
		}
		if !bytes.Equal(whole, was) {
			t.Errorf("P4.1, P4.2: %d bytes were changed by a call, or what stands beside them", len(b))
		}
	}
}

func TestSpareRoomIsNoPartOfAPage(t *testing.T) {
	part, _ := withRoom([]byte("hello"))
	if got := frame(t, 7, part); !bytes.Equal(got, plain(7, []byte("hello"))) {
		t.Errorf("P4.1: a page says what stands behind its bytes: % X", got)
	}
	whole, _ := withRoom(plain(7, nil))
	mustBeSum(t, "P4.1", "a page's first 1023 bytes, with room for more", 7, whole[:1023])
}

func TestWhatIsAnsweredIsNewMemory(t *testing.T) {
	pay, around := withRoom([]byte("hello"))
	b := frame(t, 7, pay)
	clear(around)
	if !bytes.Equal(b, plain(7, []byte("hello"))) {
		t.Errorf("P4.1: a page changes with the bytes it was made of")
	}
	part, whole := withRoom(b)
	got, e := page.Open(7, part)
	if e != api.OK {
		t.Fatalf("P4.1: code %d", e)
	}
	torn := page.Torn(part)
	clear(whole)
	if string(got[:6]) != "hello\x00" {
		t.Errorf("P4.1: what a page says changes with the page: % X", got)
	}
	if !bytes.Equal(torn[:1023], b[:1023]) {
		t.Errorf("P4.2: a torn page changes with the page: % X", torn)
	}
}

func TestWhatIsPutBehindAnAnswer(t *testing.T) {
	part, whole := withRoom(plain(7, []byte("hello")))
	was := bytes.Clone(whole)
	got, e := page.Open(7, part)
	if e != api.OK {
		t.Fatalf("P4.1: code %d", e)
	}
	other, _ := page.Open(7, part)
	torn, tornToo := page.Torn(part), page.Torn(part)
	framed, framedToo := frame(t, 7, part[:1016]), frame(t, 7, part[:1016])
	for _, b := range [][]byte{got, torn, framed} {
		more := append(b, bytes.Repeat([]byte{0x5A}, 64)...)
		for i := range more {
			more[i] = 0x5A
		}
		for i := range b {
			b[i] = 0x5A
		}
	}
	if !bytes.Equal(whole, was) {
		t.Errorf("P4.1, P4.2: what is put into an answer, or behind it, touches the page or what follows")
	}
	if !bytes.Equal(other, was[5:5+1016]) || !bytes.Equal(tornToo[:1023], was[5:5+1023]) || !bytes.Equal(framedToo, was[5:5+1024]) {
		t.Errorf("P4.1, P4.2: two answers share memory")
	}
}
