package scan_test

import (
	"bytes"
	"fmt"
	"math"
	"slices"
	"strings"
	"testing"

	"cambium/api"
	"cambium/pager"
	"cambium/scan"
	"cambium/tree"
)

// sample is items, and how many levels their tree has.
type sample struct {
	what   string
	levels int
	all    []item
}

// row: n items by rising keys, of so many bytes each, between which other ones have room.
func row(n, key, val int) []item {
	var out []item
	for i := range n {
		k := fmt.Sprintf("k%04d", i*3+1)
		k += strings.Repeat("~", max(0, key-len(k)))
		out = append(out, item{k, long(val)})
	}
	return out
}

// mixed: items whose keys are of all lengths, some of which begin as others do, and whose values stand in leaves and in chains.
func mixed() []item {
	vals := []int{0, 1, 200, 201, 17, 199, 1010, 60, 1011, 0, 2500}
	var out []item
	for i := range 150 {
		key := strings.Repeat(string(rune('a'+i%3)), 1+i%50) + strings.Repeat("\xff", i%7) + strings.Repeat("\x00", i%5)
		out = append(out, item{key, long(vals[i%len(vals)])})
	}
	slices.SortFunc(out, func(a, b item) int { return strings.Compare(a.key, b.key) })
	return slices.CompactFunc(out, func(a, b item) bool { return a.key == b.key })
}

// samples: items of trees without a level, and of one to four.
func samples() []sample {
	return []sample{
		{"no item", 0, nil},
		{"one item", 1, row(1, 1, 1)},
		{"one leaf", 1, row(3, 100, 200)},
		{"two leaves", 2, row(4, 100, 200)},
		{"two levels", 2, row(90, 5, 30)},
		{"three levels", 3, row(60, 100, 200)},
		{"four levels", 4, row(330, 100, 200)},
		{"all kinds of items", 2, mixed()},
		{"great values alone", 2, row(40, 60, 300)},
	}
}

// eachSample: does something with each sample's tree, while its pages are fresh, and when none of them is.
func eachSample(t *testing.T, do func(t *testing.T, p *pager.Pager, root int, all []item)) {
	for _, c := range samples() {
		t.Run(c.what, func(t *testing.T) {
			d, p := makePager(t, 2000)
			root := treeOf(t, p, c.all)
			if n := levels(t, p, root); n != c.levels {
				t.Fatalf("the test's own tree has %d levels, not %d", n, c.levels)
			}
			do(t, p, root, c.all)
			do(t, flushed(t, d, p), root, c.all)
		})
	}
}

// places: keys to scan from: an empty one, those of items, those between, ahead of and behind them, ones that begin as they do, and longer ones than there may be.
func places(all []item) []string {
	out := []string{"", "\x00", "\x00\x00\x00", "\xff", strings.Repeat("\xff", 100), strings.Repeat("\xff", 101), strings.Repeat("\x00", 2000)}
	for _, x := range all {
		k := x.key
		lesser, greater := []byte(k), []byte(k)
		lesser[len(k)-1]--
		greater[len(k)-1]++
		out = append(out, k, k+"\x00", k+"\xff", k[:len(k)-1], k[:(len(k)+1)/2], string(lesser), string(greater),
			k+strings.Repeat("\x00", 101), string(lesser)+strings.Repeat("\xff", 101))
	}
	slices.Sort(out)
	return slices.Compact(out)
}

// TestFrom: a scan from each place tells the items from there on, in order.
func TestFrom(t *testing.T) { // P11.1, P11.4
	eachSample(t, func(t *testing.T, p *pager.Pager, root int, all []item) {
		for i, key := range places(all) {
			want := from(all, key)
			if i%40 == 0 || len(want) < 5 {
				mustScan(t, p, root, key, want)
				continue
			}
			mustNext(t, mustFrom(t, p, root, key), want[:5]...)
		}
		if s, e := scan.From(p, root, nil); e != api.OK {
			t.Errorf("P11.1: From without a key: code %d", e)
		} else {
			mustNext(t, s, all...)
		}
	})
}

// TestBehindTheEnd: Next tells none there, again and again, and other scans go on.
func TestBehindTheEnd(t *testing.T) { // P11.1
	eachSample(t, func(t *testing.T, p *pager.Pager, root int, all []item) {
		s := mustFrom(t, p, root, "")
		mustNext(t, s, all...)
		other := mustFrom(t, p, root, "")
		for range 20 {
			mustNotNext(t, s, api.OK)
		}
		mustNext(t, other, all...)
		mustNotNext(t, other, api.OK)
		mustNotNext(t, mustFrom(t, p, root, "\xff"), api.OK)
	})
}

// TestScansSideBySide: each goes its own way, though they are asked by turns.
func TestScansSideBySide(t *testing.T) { // P11.1
	eachSample(t, func(t *testing.T, p *pager.Pager, root int, all []item) {
		var scans []*scan.Scan
		var left [][]item
		for i := 0; i < len(all); i += 1 + len(all)/6 {
			scans = append(scans, mustFrom(t, p, root, all[i].key))
			left = append(left, all[i:])
		}
		for range all {
			for i, s := range scans {
				mustNext(t, s, first(left[i], 1)...)
				left[i] = left[i][len(first(left[i], 1)):]
			}
		}
		for _, s := range scans {
			mustNotNext(t, s, api.OK)
		}
	})
}

// TestValues: values of each length at which something changes, in leaves and in chains.
func TestValues(t *testing.T) { // P11.1, P11.2
	var all []item
	for i, n := range []int{0, 1, 199, 200, 201, 202, 1009, 1010, 1011, 2020, 2021, 16383, 16384} {
		all = append(all, item{fmt.Sprintf("%02d", i), long(n)})
	}
	d, p := makePager(t, 200)
	root := treeOf(t, p, all)
	for range 2 {
		mustScan(t, p, root, "", all)
		mustItems(t, p, root, "", "", len(all), all)
		for i, x := range all {
			mustScan(t, p, root, x.key, all[i:])
			mustItems(t, p, root, x.key, "", 1, all[i:i+1])
			alone := treeOf(t, p, []item{x})
			mustScan(t, p, alone, "", []item{x})
		}
		p = flushed(t, d, p)
	}
}

// TestLongestKeys: keys of MaxKey bytes, and scans from longer ones that begin as they do.
func TestLongestKeys(t *testing.T) { // P11.1
	a, b := strings.Repeat("k", 99)+"a", strings.Repeat("k", 99)+"b"
	all := itemsOf(a, b)
	_, p := makePager(t, 50)
	root := treeOf(t, p, all)
	mustScan(t, p, root, a, all)
	mustScan(t, p, root, a+"\x00", all[1:])
	mustScan(t, p, root, a+strings.Repeat("\xff", 5000), all[1:])
	mustScan(t, p, root, b+"\x00", nil)
	mustItems(t, p, root, a, a+"\x00", 9, all[:1])
	mustItems(t, p, root, a+"\x00", b+"\x00", 9, all[1:])
}

// TestItems: items from each place, below each other one.
func TestItems(t *testing.T) { // P11.2
	eachSample(t, func(t *testing.T, p *pager.Pager, root int, all []item) {
		list := places(all)
		for i := 0; i < len(list); i += 1 + len(list)/25 {
			low := list[i]
			for j := 0; j < len(list); j += 1 + len(list)/25 {
				high := list[j]
				mustItems(t, p, root, low, high, 12, first(below(from(all, low), high), 12))
			}
			mustItems(t, p, root, low, "", 12, first(from(all, low), 12))
		}
		mustItems(t, p, root, "", "", 10000, all)
		for i, x := range all {
			mustItems(t, p, root, x.key, x.key, 10, nil)
			mustItems(t, p, root, x.key, x.key+"\x00", 10, all[i:i+1])
			mustItems(t, p, root, x.key+"\x00", x.key, 10, nil)
			mustItems(t, p, root, "\x00", x.key, 3, first(all[:i], 3))
		}
	})
}

// TestItemsMost: the first most of them, none if it is below 1.
func TestItemsMost(t *testing.T) { // P11.2
	eachSample(t, func(t *testing.T, p *pager.Pager, root int, all []item) {
		for _, most := range []int{math.MinInt, -2, -1, 0, 1, 2, 3, 4, len(all) - 1, len(all), len(all) + 1, math.MaxInt} {
			mustItems(t, p, root, "", "", most, first(all, most))
			if len(all) > 2 {
				mustItems(t, p, root, all[1].key, "", most, first(all[1:], most))
				last := all[len(all)-1].key
				mustItems(t, p, root, all[1].key, last, most, first(all[1:len(all)-1], most))
				mustItems(t, p, root, last, all[1].key, most, nil)
			}
		}
	})
}

// TestItemsPageByPage: pages of items, each from behind the last of the one ahead, are all of them, each once.
func TestItemsPageByPage(t *testing.T) { // P11.2 to P11.4
	eachSample(t, func(t *testing.T, p *pager.Pager, root int, all []item) {
		for _, most := range []int{1, 7, 100} {
			var got []item
			for key := []byte(nil); ; {
				l, e := scan.Items(p, root, key, nil, most)
				if e != api.OK {
					t.Fatalf("P11.2: Items: code %d", e)
				}
				for _, x := range l {
					got = append(got, told(x))
				}
				if len(l) < most {
					break
				}
				key = scan.After(l[len(l)-1].Key)
			}
			if !slices.Equal(got, all) {
				t.Fatalf("P11.2: pages of %d have %d items, not %d, or other ones", most, len(got), len(all))
			}
		}
	})
}

// TestItemsOfAPrefix: all that begin alike stand from the prefix on, below what is behind it.
func TestItemsOfAPrefix(t *testing.T) { // P11.2, P11.3
	eachSample(t, func(t *testing.T, p *pager.Pager, root int, all []item) {
		for i := 0; i < len(all); i += 1 + len(all)/20 {
			for n := range min(12, len(all[i].key)) + 1 {
				prefix := all[i].key[:n]
				var want []item
				for _, x := range all {
					if strings.HasPrefix(x.key, prefix) {
						want = append(want, x)
					}
				}
				mustItems(t, p, root, prefix, string(scan.Behind([]byte(prefix))), 1000, want)
			}
		}
	})
}

// rows: all rows of up to n of these bytes.
func rows(n int, of ...byte) [][]byte {
	out := [][]byte{{}}
	ahead := out
	for range n {
		var next [][]byte
		for _, r := range ahead {
			for _, b := range of {
				next = append(next, append(bytes.Clone(r), b))
			}
		}
		out = append(out, next...)
		ahead = next
	}
	return out
}

// TestAfter: a row is above a key just if it is at least what After tells.
func TestAfter(t *testing.T) { // P11.3
	for _, c := range []struct{ key, want string }{
		{"", "\x00"}, {"\x00", "\x00\x00"}, {"a", "a\x00"}, {"a\xff", "a\xff\x00"}, {"\xff", "\xff\x00"}, {long(100), long(100) + "\x00"}, {long(5000), long(5000) + "\x00"},
	} {
		if got := scan.After([]byte(c.key)); string(got) != c.want {
			t.Errorf("P11.3: After(%q): %q", c.key, got)
		}
	}
	if got := scan.After(nil); string(got) != "\x00" {
		t.Errorf("P11.3: After of none: %q", got)
	}
	all := rows(4, 0, 1, 'a', 0xFE, 0xFF)
	for _, key := range rows(2, 0, 1, 'a', 0xFE, 0xFF) {
		after := scan.After(key)
		for _, r := range all {
			if (bytes.Compare(r, key) > 0) != (bytes.Compare(r, after) >= 0) {
				t.Fatalf("P11.3: After(%q) is %q, and %q is between them", key, after, r)
			}
		}
	}
}

// TestBehind: a row is above all that begin with a prefix just if it is at least what Behind tells.
func TestBehind(t *testing.T) { // P11.3
	for _, c := range []struct{ prefix, want string }{
		{"a\xff", "b"}, {"\xff", ""}, // the chapter's examples
		{"", ""}, {"\xff\xff\xff", ""}, {"a", "b"}, {"\x00", "\x01"}, {"\xfe", "\xff"}, {"\xfe\xff", "\xff"},
		{"a\xff\xff", "b"}, {"\xffa", "\xffb"}, {"\xff\xffa\xff", "\xff\xffb"}, {"a\xffb", "a\xffc"}, {"a\xff\xfe", "a\xff\xff"},
		{"a\xff\x00", "a\xff\x01"}, {"a\x00", "a\x01"}, {"a\x00\xff", "a\x01"}, {"\x7f", "\x80"}, {"ab", "ac"},
		{strings.Repeat("\xff", 200), ""}, {"a" + strings.Repeat("\xff", 200), "b"}, {strings.Repeat("\xff", 200) + "a", strings.Repeat("\xff", 200) + "b"},
	} {
		if got := scan.Behind([]byte(c.prefix)); string(got) != c.want || c.want == "" && got != nil {
			t.Errorf("P11.3: Behind(%q): %q, not %q", c.prefix, got, c.want)
		}
	}
	if got := scan.Behind(nil); got != nil {
		t.Errorf("P11.3: Behind of none: %q", got)
	}
	all := rows(4, 0, 1, 'a', 'b', 0xFE, 0xFF)
	for _, prefix := range rows(3, 0, 'a', 0xFE, 0xFF) {
		behind := scan.Behind(prefix)
		for _, r := range all {
			// Of all that begin with the prefix, one with so many bytes FF at its end is at least each row that isn't above them all.
			above := bytes.Compare(r, append(bytes.Clone(prefix), "\xff\xff\xff\xff\xff"...)) > 0
			if above != (len(behind) > 0 && bytes.Compare(r, behind) >= 0) {
				t.Fatalf("P11.3: Behind(%q) is %q, and isn't the least row above all that begin so: %q", prefix, behind, r)
			}
		}
	}
}

// TestScanOfWhatIsWritten: a new version of a tree is told as it is, and the one ahead, of the disk, as it was.
func TestScanOfWhatIsWritten(t *testing.T) { // P11.1, P11.2
	all := row(60, 100, 200)
	d, p := makePager(t, 300)
	root := treeOf(t, p, all)
	old := flushed(t, d, p)
	next := flushed(t, d, p)
	was := mustFrom(t, old, root, "")
	mustNext(t, was, all[:7]...)
	now := root
	for i := 0; i < len(all); i += 2 {
		now, _ = tree.Delete(next, now, []byte(all[i].key))
	}
	now, _, _ = tree.Put(next, now, []byte("a"), []byte(long(3000)))
	want := []item{{"a", long(3000)}}
	for i := 1; i < len(all); i += 2 {
		want = append(want, all[i])
	}
	mustScan(t, next, now, "", want)
	mustItems(t, next, now, "", "", 1000, want)
	mustNext(t, was, all[7:]...)
	mustNotNext(t, was, api.OK)
	mustScan(t, old, root, "", all)
}
