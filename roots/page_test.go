package roots_test

import (
	"bytes"
	"fmt"
	"math"
	"slices"
	"strings"
	"testing"

	"cambium/api"
	"cambium/roots"
)

// mustMay: May tells whether they are roots, and Pay says those that are, and of others none.
func mustMay(t *testing.T, list []api.Root, want bool) {
	t.Helper()
	if roots.May(list) != want {
		t.Errorf("P12.1: May(%v) isn't %v", list, want)
	}
	says := []byte(nil)
	if want {
		says = saysOf(list)
	}
	if got := roots.Pay(list); !bytes.Equal(got, says) {
		t.Errorf("P12.1: Pay(%v): % X, not % X", list, got, says)
	}
}

// mustRefuse: it is no root, alone, and ahead of roots, among them and behind them.
func mustRefuse(t *testing.T, r api.Root) {
	t.Helper()
	mustMay(t, []api.Root{r}, false)
	for at := range 3 {
		mustMay(t, slices.Insert(named("-", "z"), at, r), false)
	}
	mustBeMalformed(t, fmt.Sprintf("what a page would say of %v", r), filled(saysOf([]api.Root{r})))
}

func TestExample(t *testing.T) { // P12.1
	want := []byte{0x43, 0x52, 0x4F, 0x4F, 0x00}
	for _, none := range [][]api.Root{nil, {}} {
		if got := roots.Pay(none); !bytes.Equal(got, want) {
			t.Errorf("P12.1: Pay of none: % X, not % X", got, want)
		}
	}
	if got, e := roots.FromPay(filled(want)); e != api.OK || len(got) != 0 {
		t.Errorf("P12.1: FromPay of none: %v and code %d", got, e)
	}
}

func TestKnownBytes(t *testing.T) { // P12.1
	list := []api.Root{{Name: "op", Page: 0x01020304, Count: 0x05060708}, {Name: "s-z"}}
	want := []byte{'C', 'R', 'O', 'O', 2, 2, 'o', 'p', 1, 2, 3, 4, 5, 6, 7, 8, 3, 's', '-', 'z', 0, 0, 0, 0, 0, 0, 0, 0}
	if got := roots.Pay(list); !bytes.Equal(got, want) {
		t.Errorf("P12.1: Pay(%v): % X, not % X", list, got, want)
	}
	if got, e := roots.FromPay(filled(want)); e != api.OK || !slices.Equal(got, list) {
		t.Errorf("P12.1: FromPay(% X ..): %v and code %d, not %v", want, got, e, list)
	}
}

func TestRoots(t *testing.T) { // P12.1, P12.3
	for _, list := range goodLists() {
		mustMay(t, list, true)
		if got, e := roots.FromPay(filled(roots.Pay(list))); e != api.OK || !slices.Equal(got, list) {
			t.Errorf("P12.3: %v: FromPay reads %v and code %d", list, got, e)
		}
	}
}

func TestHowManyThereMayBe(t *testing.T) { // P12.1
	for n := range 12 {
		mustMay(t, many(n+1), true)
	}
	for _, n := range []int{13, 14, 20} {
		mustMay(t, many(n), false)
		mustMay(t, long(n), false)
		mustBeMalformed(t, "too many", filled(saysOf(many(n))))
	}
	// As many as one byte tells as 0, and as 1.
	for _, n := range []int{256, 257, 1 << 16} {
		mustMay(t, make([]api.Root, n), false)
		var rising []api.Root
		for i := range n {
			rising = append(rising, api.Root{Name: string([]byte{'a' + byte(i/26/26/26%26), 'a' + byte(i/26/26%26), 'a' + byte(i/26%26), 'a' + byte(i%26)})})
		}
		mustMay(t, rising, false)
		mustMay(t, rising[:12], true)
	}
	mustMay(t, make([]api.Root, 13), false)
}

func TestHowLongNamesMayBe(t *testing.T) { // P12.1
	for n := range 300 {
		r := root(strings.Repeat("m", n))
		if 1 <= n && n <= 24 {
			mustMay(t, []api.Root{r}, true)
		} else {
			mustRefuse(t, r)
		}
	}
	mustRefuse(t, root(strings.Repeat("m", 1<<16+3)))
	// 24 letters, but more bytes; and 24 bytes that are fewer letters.
	mustRefuse(t, root(strings.Repeat("é", 24)))
	mustRefuse(t, root(strings.Repeat("é", 12)))
}

func TestLettersOfNames(t *testing.T) { // P12.1
	for b := range 256 {
		one := string([]byte{byte(b)})
		ok := strings.Contains(letters, one)
		for _, name := range []string{one, one + "m", "m" + one, "mm" + one + "mm", strings.Repeat("m", 23) + one, one + strings.Repeat("m", 23)} {
			if ok {
				mustMay(t, []api.Root{root(name)}, true)
			} else {
				mustRefuse(t, root(name))
			}
		}
	}
	for _, letter := range []string{"é", "ß", "я", "一", "ａ", "ｚ", "－", "‐", "−", "ı", "ſ", "𝒶", "\U0010FFFF", "\uFFFD", "\u0161", "\u012D", "\xC3", "\xA9", "\xED\xA0\x80", "\xF4\x90\x80\x80", "\xC1\xA1"} {
		for _, name := range []string{letter, "m" + letter, letter + "m", "m" + letter + "m"} {
			mustRefuse(t, root(name))
		}
	}
}

func TestOrderOfNames(t *testing.T) { // P12.1
	for _, c := range []struct {
		names string
		want  bool
	}{
		{"a b", true}, {"a a", false}, {"b a", false},
		{"a aa", true}, {"aa a", false}, {"a a-", true}, {"a- a", false}, {"- a", true}, {"a -", false},
		{"a- aa", true}, {"aa a-", false}, {"az b", true}, {"b az", false},
		{"a b c", true}, {"a c b", false}, {"b a c", false}, {"c b a", false}, {"a b a", false}, {"a a b", false}, {"a b b", false},
		{strings.Repeat("a", 23) + " " + strings.Repeat("a", 24), true}, {strings.Repeat("a", 24) + " " + strings.Repeat("a", 23), false},
		{strings.Repeat("a", 24) + " " + strings.Repeat("a", 24), false},
		{strings.Repeat("a", 23) + "a " + strings.Repeat("a", 23) + "b", true}, {strings.Repeat("a", 23) + "b " + strings.Repeat("a", 23) + "a", false},
	} {
		list := named(strings.Fields(c.names)...)
		mustMay(t, list, c.want)
		if !c.want {
			mustBeMalformed(t, c.names, filled(saysOf(list)))
		}
	}
	// The last two of as many as may be.
	list := many(12)
	list[10], list[11] = list[11], list[10]
	mustMay(t, list, false)
	list[10] = list[11]
	mustMay(t, list, false)
}

func TestNumbersOfRoots(t *testing.T) { // P12.1
	good := func(n int) bool { return 1 <= n && n <= math.MaxInt32 }
	numbers := []int{math.MinInt, math.MinInt + 5, -1 << 32, -1<<32 + 2, -1<<31 - 1, -1 << 31, -5, -2, -1, 0, 1, 2, 3, 255, 256, 1 << 16, 1<<24 + 1, 1<<31 - 2, 1<<31 - 1, 1 << 31, 1<<31 + 1, 1<<32 - 1, 1 << 32, 1<<32 + 1, 1<<32 + 2, 1<<32 + 5, 1 << 62, math.MaxInt}
	for _, no := range numbers {
		for _, count := range numbers {
			want := no == 0 && count == 0 || no != 1 && good(no) && good(count)
			list := []api.Root{{Name: "a", Page: no, Count: count}}
			mustMay(t, list, want)
			mustMay(t, append(named("-"), list...), want)
			if !want {
				mustFrom(t, fmt.Sprintf("what a page would say of %v", list), filled(saysOf(list)))
			}
		}
	}
	for _, r := range []api.Root{
		{Name: "a", Page: 1, Count: 1}, {Name: "a", Page: 1}, {Name: "a", Count: 1}, {Name: "a", Page: 2},
		{Name: "a", Page: 1 << 31, Count: 1}, {Name: "a", Page: 2, Count: 1 << 31},
		{Name: "a", Page: -1, Count: 1}, {Name: "a", Page: 2, Count: -1}, {Name: "a", Page: -1, Count: -1},
	} {
		mustRefuse(t, r)
	}
}

func TestEachByteOfAPage(t *testing.T) { // P12.1
	for i, list := range goodLists() {
		says := saysOf(list)
		for at := range min(len(says)+30, 1016) {
			for change := 1; change < 256; change++ {
				b := filled(says)
				b[at] ^= byte(change)
				mustFrom(t, fmt.Sprintf("list %d, byte %d turned by %02X", i, at, change), b)
			}
		}
		for at := len(says); at < 1016; at++ {
			for _, x := range []byte{1, 0x80, 'a'} {
				b := filled(says)
				b[at] = x
				mustBeMalformed(t, fmt.Sprintf("list %d, and %02X at byte %d", i, x, at), b)
			}
		}
	}
}

func TestLengthsOfAPage(t *testing.T) { // P12.1
	for _, list := range goodLists() {
		b := filled(saysOf(list))
		for n := range 1016 {
			mustBeMalformed(t, fmt.Sprintf("%v, cut to %d bytes", list, n), b[:n])
		}
		for _, more := range []int{1, 2, 8, 1016, 3000} {
			mustBeMalformed(t, fmt.Sprintf("%v, and %d bytes more", list, more), append(bytes.Clone(b), make([]byte, more)...))
		}
		mustBeMalformed(t, "what isn't filled up", saysOf(list))
	}
	mustBeMalformed(t, "no bytes", nil)
	mustBeMalformed(t, "bytes 0", make([]byte, 1016))
	for n := range 12 {
		mustBeMalformed(t, "few bytes", []byte("CROO\x01\x01a\x00\x00\x00\x02\x00\x00\x00\x01")[:n])
	}
}

func TestHowManyAPageSays(t *testing.T) { // P12.1
	for _, list := range goodLists() {
		for count := range 256 {
			b := filled(plainSays(count, list))
			if count == len(list) {
				mustFrom(t, "just as many", b)
			} else {
				mustBeMalformed(t, fmt.Sprintf("%v, said to be %d", list, count), b)
			}
		}
	}
}

// TestPagesThatAreFull: whatever lengths a page says, no byte is looked for behind its end.
func TestPagesThatAreFull(t *testing.T) { // P12.1, rule 6
	for x := range 256 {
		b := append([]byte("CROO"), bytes.Repeat([]byte{byte(x)}, 1012)...)
		mustFrom(t, fmt.Sprintf("bytes %02X", x), b)
		for _, count := range []byte{0, 1, 2, 3, 11, 12, 13, 30, 255} {
			b[4] = count
			mustFrom(t, fmt.Sprintf("%d of bytes %02X", count, x), b)
		}
	}
	// Names that would fill the page up to its end, and go on behind it.
	for _, n := range []int{25, 100, 243, 244, 245, 246, 247, 248, 249, 255} {
		for count := range 14 {
			var list []api.Root
			for i := range count {
				list = append(list, api.Root{Name: letters[1+i:2+i] + strings.Repeat("m", n-1), Page: 2, Count: 1})
			}
			mustFrom(t, fmt.Sprintf("%d names of %d letters", count, n), filled(saysOf(list)))
		}
	}
}

func TestMarksOfAPage(t *testing.T) { // P12.1
	for _, mark := range []string{"CAMB", "CROo", "croo", "CRO\x00", "\x00ROO", "ROOC", "CROP", "    "} {
		b := filled(saysOf(many(3)))
		copy(b, mark)
		mustBeMalformed(t, mark, b)
	}
}
