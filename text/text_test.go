package text_test

import (
	"fmt"
	"slices"
	"strings"
	"testing"
	"unicode/utf8"

	"cambium/text"
)

// P2.1: a right text is UTF-8 without the runes that steer.
func TestRight(t *testing.T) {
	for _, c := range []struct {
		s    string
		want bool
	}{
		{"", true},
		{"a", true},
		{" !~", true},
		{"GET /v1/é 😀", true},
		{"\u00A0", true},
		{"\uFFFD", true},
		{"\U0010FFFF", true},
		{"a\x00", false},
		{"a\tb", false},
		{"\n", false},
		{"\r", false},
		{"\x1f", false},
		{"\x7f", false},
		{"\u0080", false},
		{"\u0085", false},
		{"\u009F", false},
		{"ab\u009Fcd", false},
		{"\xff", false},
		{"ok\x80", false},
		{"\xc3", false},
		{"\xc0\xaf", false},     // longer than it need be
		{"\xed\xa0\x80", false}, // half of a pair
		{"\xf4\x90\x80\x80", false},
	} {
		if got := text.Right(c.s); got != c.want {
			t.Errorf("P2.1: Right(%q) = %v", c.s, got)
		}
	}
}

// P2.1: just the runes below 20 and from 7F to 9F make a text of one rune wrong.
func TestRightOfEachRune(t *testing.T) {
	for r := rune(0); r < 0x3000; r++ {
		want := !(r < 0x20 || r >= 0x7F && r <= 0x9F)
		if text.Right(string(r)) != want || text.Right("é"+string(r)+"b") != want {
			t.Errorf("P2.1: Right of %x isn't %v", r, want)
		}
	}
}

// P2.1: Len counts runes, and each byte that belongs to none by itself.
func TestLen(t *testing.T) {
	for _, c := range []struct {
		s    string
		want int
	}{
		{"", 0},
		{"abc", 3},
		{"é", 1},
		{"aé😀", 3},
		{"é\xff", 2},
		{"\xff\xfe\xfd", 3},
		{"\xe2\x82", 2},     // cut off within a rune
		{"\xe2\x82a", 3},    // cut off, and gone on
		{"\xed\xa0\x80", 3}, // half of a pair
		{"\x00\n", 2},
		{strings.Repeat("😀", 1000), 1000},
	} {
		if got := text.Len(c.s); got != c.want {
			t.Errorf("P2.1: Len(%q) = %d, not %d", c.s, got, c.want)
		}
	}
}

// P2.1: Cut takes whole runes from the beginning on.
func TestCut(t *testing.T) {
	const most, least = int(^uint(0) >> 1), -int(^uint(0)>>1) - 1
	for _, c := range []struct {
		s    string
		n    int
		want string
	}{
		{"abc", 2, "ab"},
		{"abc", 3, "abc"},
		{"abc", 4, "abc"},
		{"abc", most, "abc"},
		{"abc", 1, "a"},
		{"abc", 0, ""},
		{"abc", -1, ""},
		{"abc", least, ""},
		{"", 0, ""},
		{"", 1, ""},
		{"", -1, ""},
		{"aé😀", 1, "a"},
		{"aé😀", 2, "aé"},
		{"aé😀", 3, "aé😀"},
		{"a\xffé", 2, "a\xff"},
		{"\xe2\x82\xacx", 1, "€"},
		{"\xe2\x82x", 1, "\xe2"},
		{"\xe2\x82x", 2, "\xe2\x82"},
	} {
		if got := text.Cut(c.s, c.n); got != c.want {
			t.Errorf("P2.1: Cut(%q, %d) = %q, not %q", c.s, c.n, got, c.want)
		}
	}
}

// P2.1: what Cut leaves has the runes that it was asked for, and is where the text begins.
func TestCutAndLen(t *testing.T) {
	for _, s := range []string{"", "a", "aé😀", "\xffa\xe2\x82b", "a b\tc"} {
		for n := -2; n < 10; n++ {
			got := text.Cut(s, n)
			if !strings.HasPrefix(s, got) || text.Len(got) != min(max(n, 0), text.Len(s)) {
				t.Errorf("P2.1: Cut(%q, %d) = %q", s, n, got)
			}
		}
	}
}

// P2.1: letters and blanks are told rune by rune, also where there is no such rune.
func TestLetterAndBlank(t *testing.T) {
	const letters = "abcdefghijklmnopqrstuvwxyzABCDEFGHIJKLMNOPQRSTUVWXYZ0123456789_.-/:"
	for r := rune(-300); r < 0x3000; r++ {
		low := r >= 0 && r < 0x80 && strings.IndexByte(letters, byte(r)) >= 0
		if want := low || r > 0x9F; text.Letter(r) != want {
			t.Errorf("P2.1: Letter of %x isn't %v", r, want)
		}
		if want := r == 0x20 || r == 9 || r == 0xA || r == 0xD; text.Blank(r) != want {
			t.Errorf("P2.1: Blank of %x isn't %v", r, want)
		}
	}
	for _, r := range []rune{0xD800, 0xFFFD, 0xFFFF, 0x1F600, 0x10FFFF, 0x7FFFFFFF} {
		if !text.Letter(r) || text.Blank(r) {
			t.Errorf("P2.1: %x is a letter and no blank", r)
		}
	}
	if least := rune(-0x80000000); text.Letter(least) || text.Blank(least) {
		t.Error("P2.1: below 0 there is no letter and no blank")
	}
}

// P2.1: Lower changes A to Z alone, and no byte that belongs to no rune.
func TestLower(t *testing.T) {
	for _, c := range []struct{ s, want string }{
		{"", ""},
		{"ABCxyzXYZ", "abcxyzxyz"},
		{"@AZ[`az{", "@az[`az{"},
		{"AbÉ", "abÉ"},
		{"\u0130\u212A", "\u0130\u212A"}, // small i and k would be theirs by other rules
		{"A\xffB\xc3", "a\xffb\xc3"},
		{"A\x00 \n9", "a\x00 \n9"},
	} {
		if got := text.Lower(c.s); got != c.want {
			t.Errorf("P2.1: Lower(%q) = %q, not %q", c.s, got, c.want)
		}
	}
	for b := range 256 {
		want := byte(b)
		if b >= 'A' && b <= 'Z' {
			want += 32
		}
		if got := text.Lower(string([]byte{byte(b)})); got != string([]byte{want}) {
			t.Errorf("P2.1: Lower of the byte %x = %q", b, got)
		}
	}
}

// P2.2: a pattern stands for just the runes of a text.
func TestMatch(t *testing.T) {
	for _, c := range []struct {
		pattern, s string
		want       bool
	}{
		{"", "", true},
		{"", "a", false},
		{"abc", "abc", true},
		{"abc", "ab", false},
		{"ab", "abc", false},
		{"abc", "abC", false},
		{"*", "", true},
		{"*", "a\n\xff", true},
		{"**", "", true},
		{"***", "abc", true},
		{"?", "a", true},
		{"?", "é", true},
		{"?", "😀", true},
		{"?", "\xff", true},
		{"?", "", false},
		{"?", "ab", false},
		{"?", "\xe2\x82", false},
		{"??", "\xe2\x82", true},
		{"a*?c", "abbc", true},
		{"a*?c", "ac", false},
		{"*?", "", false},
		{"?*", "a", true},
		{"*a", "ba", true},
		{"*a", "bab", false},
		{"a*", "a", true},
		{"a*", "ba", false},
		{"a*b*c", "aXbYbc", true},
		{"a*b*c", "acb", false},
		{"**a", "ba", true},
		{"*ab", "aab", true},     // the star takes one rune more
		{"*aab", "aaaab", true},  // and yet one more
		{"a*bc", "abbbbc", true}, // gone back to again and again
		{"*ab*ab", "abab", true},
		{"*ab*ab", "aba", false},
		{"*ab*cd*", "xabyabcdz", true},
		{"x*y*z", "xyyzyz", true},
		{"x*y*z", "xyyzyzq", false},
		{"*é", "abé", true},
		{"é*\xc3", "éx\xc3", true},
		{"\\*", "*", true},
		{"\\*", "x", false},
		{"\\*", "\\*", false},
		{"\\?", "?", true},
		{"\\?", "x", false},
		{"\\\\", "\\", true},
		{"\\\\", "\\\\", false},
		{"\\a", "a", true},
		{"\\a", "\\a", false},
		{"\\é", "é", true},
		{"\\", "\\", true},
		{"\\", "", false},
		{"a\\", "a\\", true},
		{"a\\", "a", false},
		{"*\\", "ab\\", true},
		{"\\\\\\", "\\\\", true},
		{"\\\\*", "\\abc", true},
		{"\\**", "*abc", true},
		{"\\**", "abc", false},
		{"*\\**", "ab*cd", true},
		{"*\\**", "abcd", false},
		{"\x00", "\x00", true},
		{"\x00", "", false},
	} {
		if got := text.Match(c.pattern, c.s); got != c.want {
			t.Errorf("P2.2: Match(%q, %q) = %v", c.pattern, c.s, got)
		}
	}
}

// P2.2: a byte that belongs to no rune counts as FFFD, in the pattern and in the text.
func TestMatchWithStrayBytes(t *testing.T) {
	for _, pattern := range []string{"\xff", "\xfe", "\uFFFD", "\\\xff", "?", "*"} {
		for _, s := range []string{"\xff", "\x80", "\uFFFD"} {
			if !text.Match(pattern, s) {
				t.Errorf("P2.2: Match(%q, %q) is false", pattern, s)
			}
		}
		if pattern != "*" && text.Match(pattern, "\xff\xff") {
			t.Errorf("P2.2: Match(%q) takes two runes for one", pattern)
		}
	}
}

// stands: the words of the chapter, one rune of the pattern after the other, every way tried.
func stands(pattern, s []rune) bool {
	switch {
	case len(pattern) == 0:
		return len(s) == 0
	case pattern[0] == '*':
		return stands(pattern[1:], s) || len(s) > 0 && stands(pattern, s[1:])
	case len(s) == 0:
		return false
	case pattern[0] == '?':
		return stands(pattern[1:], s[1:])
	case pattern[0] == '\\' && len(pattern) > 1:
		return pattern[1] == s[0] && stands(pattern[2:], s[1:])
	}
	return pattern[0] == s[0] && stands(pattern[1:], s[1:])
}

// textsOf: all texts of these runes, up to a length.
func textsOf(runes string, most int) []string {
	all, last := []string{""}, []string{""}
	for range most {
		var next []string
		for _, s := range last {
			for _, r := range runes {
				next = append(next, s+string(r))
			}
		}
		all, last = append(all, next...), next
	}
	return all
}

// P2.2: all short patterns on all short texts.
func TestMatchOfAllShortOnes(t *testing.T) {
	texts := textsOf("aé*\\", 4)
	for _, pattern := range textsOf("aé*?\\", 5) {
		for _, s := range texts {
			if want := stands([]rune(pattern), []rune(s)); text.Match(pattern, s) != want {
				t.Fatalf("P2.2: Match(%q, %q) isn't %v", pattern, s, want)
			}
		}
	}
}

// P2.2: many stars that must be gone back to don't keep a call from ending.
func TestMatchEnds(t *testing.T) {
	pattern := strings.Repeat("*a", 200)
	s := strings.Repeat("a", 4000)
	if text.Match(pattern+"b", s) || !text.Match(pattern, s) || !text.Match(pattern+"b", s+"b") {
		t.Error("P2.2: many stars")
	}
}

// P2.2: words are what stands between blanks.
func TestWords(t *testing.T) {
	for _, c := range []struct {
		s    string
		want []string
	}{
		{"", nil},
		{" ", nil},
		{" \t\n\r ", nil},
		{"a", []string{"a"}},
		{"ab cd", []string{"ab", "cd"}},
		{" ab", []string{"ab"}},
		{"ab ", []string{"ab"}},
		{"  a\tb\n cé ", []string{"a", "b", "cé"}},
		{"a\r\nb", []string{"a", "b"}},
		{"a  b   c", []string{"a", "b", "c"}},
		{"é 😀", []string{"é", "😀"}},
		{"a\xff \xfeb", []string{"a\xff", "\xfeb"}},
		{"a\u00A0b\u0085c\vd\fe\u2003f", []string{"a\u00A0b\u0085c\vd\fe\u2003f"}}, // none of them is a blank
		{"a\x00b c", []string{"a\x00b", "c"}},
		{"same same", []string{"same", "same"}},
	} {
		if got := text.Words(c.s); !slices.Equal(got, c.want) {
			t.Errorf("P2.2: Words(%q) = %q, not %q", c.s, got, c.want)
		}
	}
}

// P2.2: an answer is new memory: a list that is written over changes no other.
func TestWordsAreNew(t *testing.T) {
	const s = "a b c"
	first := text.Words(s)
	second := text.Words(s)
	first[0] = "x"
	_ = append(first[:1], "y")
	if fmt.Sprint(second, text.Words(s)) != "[a b c] [a b c]" {
		t.Error("P2.2: lists share memory")
	}
}

// P2.3: a plain UTF-8 text matches itself alone, and a star every text.
func TestPlainAndStar(t *testing.T) {
	texts := append(textsOf("abé", 3), "GET /v1", "😀", "a\n", "\xff", "\xe2\x82", "*", "?", "\\")
	for _, pattern := range texts {
		plain := !strings.ContainsAny(pattern, "*?\\") && utf8.ValidString(pattern)
		for _, s := range texts {
			if plain && text.Match(pattern, s) != (pattern == s) {
				t.Errorf("P2.3: %q and %q", pattern, s)
			}
		}
		if !text.Match("*", pattern) {
			t.Errorf("P2.3: a star doesn't match %q", pattern)
		}
	}
}
