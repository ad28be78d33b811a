package node_test

import (
	"bytes"
	"encoding/binary"
	"math"
	"math/rand"
	"slices"
	"testing"

	"cambium/api"
	"cambium/node"
)

// plainLink: what a chain's page says with these numbers and bytes, be they a chain's or not.
func plainLink(next uint32, count uint16, b string) []byte {
	out := binary.BigEndian.AppendUint32(nil, next)
	out = binary.BigEndian.AppendUint16(out, count)
	return append(out, b...)
}

// mustLink: Link tells this, and it is read again.
func mustLink(t *testing.T, next int, b string) {
	t.Helper()
	says := plainLink(uint32(next), uint16(len(b)), b)
	if got := node.Link(next, []byte(b)); !bytes.Equal(got, says) {
		t.Errorf("P8.2: Link(%d, %d bytes): % X, not % X", next, len(b), got, says)
	}
	mustReadLink(t, filled(says), next, b)
}

// mustNotLink: Link tells nothing.
func mustNotLink(t *testing.T, next int, b []byte) {
	t.Helper()
	if got := node.Link(next, b); got != nil {
		t.Errorf("P8.2: Link(%d, %d bytes): %d bytes, not none", next, len(b), len(got))
	}
}

// mustReadLink: FromLink tells these.
func mustReadLink(t *testing.T, says []byte, next int, b string) {
	t.Helper()
	if no, got, e := node.FromLink(says); e != api.OK || no != next || string(got) != b {
		t.Errorf("P8.2: FromLink: %d, % X and code %d, not %d and % X", no, got, e, next, b)
	}
}

// mustNotReadLink: FromLink refuses it.
func mustNotReadLink(t *testing.T, what string, says []byte) {
	t.Helper()
	if no, got, e := node.FromLink(says); e != api.Malformed || no != 0 || len(got) != 0 {
		t.Errorf("P8.2: FromLink of %s: %d, % X and code %d, not 0, none and Malformed", what, no, got, e)
	}
}

func TestLink(t *testing.T) { // P8.2
	if got, want := node.Link(5, []byte("bytes")), []byte("\x00\x00\x00\x05\x00\x05bytes"); !bytes.Equal(got, want) {
		t.Errorf("P8.2: % X, not % X", got, want)
	}
	if got, want := node.Link(0x01020304, []byte(long(1010))), []byte("\x01\x02\x03\x04\x03\xf2"+long(1010)); !bytes.Equal(got, want) {
		t.Errorf("P8.2: % X, not % X", got, want)
	}
	for _, next := range []int{0, 1, 2, 255, 256, 65536, 1 << 24, 1<<31 - 2, 1<<31 - 1} {
		for _, n := range []int{1, 2, 255, 256, 257, 500, 1009, 1010} {
			mustLink(t, next, long(n))
			mustLink(t, next, string(make([]byte, n)))
			mustLink(t, next, string(bytes.Repeat([]byte{255}, n)))
		}
	}
	for n := 1; n <= 1010; n++ {
		mustLink(t, 9, long(n))
	}
}

func TestLinkOfWhatMayNotBe(t *testing.T) { // P8.2
	for _, next := range []int{math.MinInt, -1 << 32, -1<<32 + 9, -1 << 31, -2, -1, 1 << 31, 1<<31 + 9, 1<<32 - 1, 1 << 32, 1<<32 + 9, math.MaxInt} {
		for _, n := range []int{0, 1, 5, 1010, 1011} {
			mustNotLink(t, next, make([]byte, n))
		}
		mustNotLink(t, next, nil)
	}
	for _, next := range []int{0, 1, 2, 1<<31 - 1} {
		mustNotLink(t, next, nil)
		mustNotLink(t, next, []byte{})
		for _, n := range []int{1011, 1012, 1016, 1024, 16384, 65536, 65537, 65536 + 1010} {
			mustNotLink(t, next, make([]byte, n))
		}
	}
}

func TestFromLinkOfOtherLengths(t *testing.T) { // P8.2
	for _, n := range []int{1, 5, 1010} {
		says := append(plainLink(9, uint16(n), long(n)), make([]byte, 3000)...)
		for _, length := range []int{0, 1, 3, 4, 5, 6, 7, 6 + n - 1, 1014, 1015, 1017, 1018, 1024, 2032} {
			mustNotReadLink(t, "another length", says[:length])
			mustNotReadLink(t, "another length, without room behind", says[:length:length])
		}
		mustReadLink(t, says[:1016], 9, long(n))
	}
	mustNotReadLink(t, "nil", nil)
}

func TestFromLinkOfHowMany(t *testing.T) { // P8.2
	for _, next := range []uint32{0, 1, 9, 1<<31 - 1} {
		mustNotReadLink(t, "0 bytes", filled(plainLink(next, 0, "")))
		mustNotReadLink(t, "0 bytes, and one behind", filled(plainLink(next, 0, "x")))
		mustReadLink(t, filled(plainLink(next, 1, "")), int(next), "\x00")
		mustReadLink(t, filled(plainLink(next, 1, "x")), int(next), "x")
		mustReadLink(t, filled(plainLink(next, 1010, "")), int(next), string(make([]byte, 1010)))
		mustReadLink(t, filled(plainLink(next, 1010, long(1010))), int(next), long(1010))
		for _, count := range []uint16{1011, 1012, 1016, 1024, 0x2f2 + 1<<10, 1 << 15, 65535} {
			mustNotReadLink(t, "more bytes than may be", filled(plainLink(next, count, "")))
			mustNotReadLink(t, "more bytes than may be, none 0", filled(plainLink(next, count, long(1010))))
		}
	}
	mustNotReadLink(t, "1010 bytes that are said to be 1009", filled(plainLink(9, 1009, long(1010))))
}

func TestFromLinkOfANextBeyond(t *testing.T) { // P8.2
	for _, next := range []uint32{1 << 31, 1<<31 + 9, 1<<32 - 1} {
		for _, n := range []int{1, 5, 1010} {
			mustNotReadLink(t, "a next beyond", filled(plainLink(next, uint16(n), long(n))))
		}
	}
}

func TestFromLinkOfAByteBehind(t *testing.T) { // P8.2
	for _, n := range []int{1, 2, 500, 1008, 1009} {
		for at := 6 + n; at < 1016; at++ {
			for _, x := range []byte{1, 128, 255} {
				says := filled(plainLink(9, uint16(n), long(n)))
				says[at] = x
				mustNotReadLink(t, "a byte behind", says)
			}
		}
	}
}

// TestFromLinkOfAnyBytes: what is read may be, and has just those bytes; what isn't is no chain's page.
func TestFromLinkOfAnyBytes(t *testing.T) { // P8.2, P8.3
	random := rand.New(rand.NewSource(888))
	read := 0
	for range 20000 {
		n := random.Intn(1020)
		next, count := random.Uint32()>>random.Intn(4), uint16(max(0, n+random.Intn(3)-1))
		b := make([]byte, min(n, 1010))
		random.Read(b)
		says := filled(plainLink(next, count, string(b)))
		may := next < 1<<31 && count > 0 && count < 1011 && bytes.Count(says[6+min(count, 1010):], []byte{0}) == 1010-int(min(count, 1010))
		if !may {
			mustNotReadLink(t, "any bytes", says)
			continue
		}
		read++
		mustReadLink(t, says, int(next), string(says[6:6+count]))
		no, got, _ := node.FromLink(says)
		if !bytes.Equal(filled(node.Link(no, got)), says) {
			t.Fatalf("P8.3: what is read has other bytes")
		}
	}
	if read < 3000 || read > 17000 {
		t.Errorf("%d of the random pages were a chain's", read)
	}
}

// roomy: bytes between others, with room behind; and all of it.
func roomy(b []byte) (part, whole []byte) {
	whole = slices.Concat([]byte("ahead"), b, bytes.Repeat([]byte{0xA5}, 50))
	return whole[5 : 5+len(b)], whole
}

func TestLinkTouchesNothing(t *testing.T) { // P8.2
	for _, n := range []int{0, 1, 5, 1010, 1011} {
		part, whole := roomy([]byte(long(n)))
		was := bytes.Clone(whole)
		says := node.Link(7, part)
		if !bytes.Equal(whole, was) {
			t.Errorf("P8.2: bytes that were handed to Link are changed, or what stands beside them")
		}
		told, again := bytes.Clone(says), node.Link(7, part)
		spoil(again)
		spoil(whole)
		if !bytes.Equal(says, told) {
			t.Errorf("P8.2: what Link answered changes with what was handed in, or with another answer")
		}
	}
}

func TestFromLinkTouchesNothing(t *testing.T) { // P8.2
	for _, n := range []int{1, 5, 1010} {
		for _, length := range []int{6 + n, 1015, 1016, 1017} {
			page := append(filled(plainLink(7, uint16(n), long(n))), 0)
			part, whole := roomy(page[:length])
			was := bytes.Clone(whole)
			_, got, e := node.FromLink(part)
			_, again, _ := node.FromLink(part)
			if !bytes.Equal(whole, was) {
				t.Errorf("P8.2: bytes that were handed to FromLink are changed, or what stands beside them")
			}
			spoil(again)
			if !bytes.Equal(whole, was) {
				t.Errorf("P8.2: what FromLink answers shares memory with what was handed in")
			}
			spoil(whole)
			if e == api.OK && string(got) != long(n) {
				t.Errorf("P8.2: what FromLink answered changes with what was handed in, or with another answer")
			}
		}
	}
}
