package scan_test

import (
	"bytes"
	"slices"
	"testing"

	"cambium/api"
	"cambium/pager"
	"cambium/scan"
)

// spoil: bytes are written over, and what would be put behind them, too.
func spoil(b []byte) {
	b = b[:cap(b)]
	for i := range b {
		b[i] = 0x5A
	}
}

// spoilItem: an item's key and value are written over.
func spoilItem(x api.Item) {
	spoil(x.Key)
	spoil(x.Val)
}

// handIn: bytes are handed to a call; it must leave them, and the room behind them, as they are; then they are written over.
func handIn(t *testing.T, what, text string, call func(b []byte)) {
	t.Helper()
	whole := append([]byte(text), bytes.Repeat([]byte{0xC3}, 200)...)
	before := bytes.Clone(whole)
	call(whole[:len(text)])
	if !bytes.Equal(whole, before) {
		t.Fatalf("rule 3: %s changed what was handed in", what)
	}
	spoil(whole)
}

// TestWhatIsHandedInIsNotKept: keys are written over behind the calls.
func TestWhatIsHandedInIsNotKept(t *testing.T) { // P11.1 to P11.3
	eachSample(t, func(t *testing.T, p *pager.Pager, root int, all []item) {
		list := places(all)
		for i := 0; i < len(list); i += 1 + len(list)/60 {
			var s *scan.Scan
			handIn(t, "From", list[i], func(b []byte) { s, _ = scan.From(p, root, b) })
			mustNext(t, s, from(all, list[i])...)
			mustNotNext(t, s, api.OK)
			to := list[len(list)-1-i]
			var got []api.Item
			handIn(t, "Items, of where it begins", list[i], func(low []byte) {
				handIn(t, "Items, of where it ends", to, func(high []byte) {
					got, _ = scan.Items(p, root, low, high, 50)
				})
			})
			mustBe(t, got, first(below(from(all, list[i]), to), 50))
		}
	})
	for _, text := range []string{"", "a", "a\xff\xff", "\xff", "\xff\xff", "\x00", long(100)} {
		var after, behind []byte
		handIn(t, "After", text, func(b []byte) { after = scan.After(b) })
		handIn(t, "Behind", text, func(b []byte) { behind = scan.Behind(b) })
		if string(after) != text+"\x00" || !bytes.Equal(behind, scan.Behind([]byte(text))) {
			t.Errorf("rule 3: %q and %q were told of what is written over", after, behind)
		}
	}
}

// mustBe: items that were told are these.
func mustBe(t *testing.T, got []api.Item, want []item) {
	t.Helper()
	if !slices.EqualFunc(got, want, func(x api.Item, w item) bool { return told(x) == w }) {
		t.Fatalf("rule 3: %d items, not %d, or other ones", len(got), len(want))
	}
}

// TestAKeyThatIsWrittenOverBehindFrom: what comes is held against the key that was handed in, not against what it became.
func TestAKeyThatIsWrittenOverBehindFrom(t *testing.T) { // P11.1
	_, p := makePager(t, 20)
	root := putBranch(t, p, []int{putLeaf(t, p, "a"), putLeaf(t, p, "x")}, "m")
	key := []byte("b")
	s, _ := scan.From(p, root, key)
	key[0] = 'z'
	mustNext(t, s, itemsOf("x")...)
	mustNotNext(t, s, api.OK)

	root = putBranch(t, p, []int{putLeaf(t, p, "a"), putLeaf(t, p, "a")}, "m")
	s, _ = scan.From(p, root, key[:1])
	key[0] = 'a'
	mustNext(t, s)
	mustNotNext(t, s, api.OK)
}

// TestWhatIsAnsweredIsNewMemory: written over, it changes nothing that is told later, by the same scan or by another one.
func TestWhatIsAnsweredIsNewMemory(t *testing.T) { // P11.1, P11.2
	eachSample(t, func(t *testing.T, p *pager.Pager, root int, all []item) {
		s, other := mustFrom(t, p, root, ""), mustFrom(t, p, root, "")
		var kept []api.Item
		for _, w := range all {
			x, _, _ := s.Next()
			y, ok, e := other.Next()
			if e != api.OK || !ok || told(x) != w || told(y) != w {
				t.Fatalf("P11.1: Next: %q, %q and code %d, not %q", x.Key, y.Key, e, w.key)
			}
			spoilItem(x)
			kept = append(kept, y)
		}
		mustNotNext(t, s, api.OK)
		mustBe(t, kept, all)

		one, _ := scan.Items(p, root, nil, nil, 1000)
		two, _ := scan.Items(p, root, nil, nil, 1000)
		for i, x := range one {
			spoilItem(x)
			mustBe(t, one[i+1:], all[i+1:])
		}
		clear(one[:cap(one)])
		mustBe(t, two, all)
		mustBe(t, kept, all)
		mustScan(t, p, root, "", all)
	})
}

// TestKeysAndValuesShareNothing: of one item, and of those beside it, each is written over alone.
func TestKeysAndValuesShareNothing(t *testing.T) { // P11.1, P11.2
	all := []item{{"a", ""}, {"bb", long(20)}, {"cc", "c"}, {"d", long(201)}, {"e", long(1011)}, {"f", "f"}}
	d, p := makePager(t, 40)
	root := treeOf(t, p, all)
	for range 2 {
		for at := range 2 * len(all) {
			got, _ := scan.Items(p, root, nil, nil, len(all))
			mustBe(t, got, all)
			x, want := &got[at/2], slices.Clone(all)
			if at%2 == 0 {
				spoil(x.Key)
				want[at/2].key = string(bytes.Repeat([]byte{0x5A}, len(x.Key)))
			} else {
				spoil(x.Val)
				want[at/2].val = string(bytes.Repeat([]byte{0x5A}, len(x.Val)))
			}
			mustBe(t, got, want)
		}
		p = flushed(t, d, p)
	}
}

// TestRowsThatAreAnsweredAreNewMemory: After and Behind tell rows of their own.
func TestRowsThatAreAnsweredAreNewMemory(t *testing.T) { // P11.3
	for _, text := range []string{"", "a", "ab\xff", "\xff", "a\xffb", long(100)} {
		in := append(make([]byte, 0, 300), text...)
		for _, call := range []func([]byte) []byte{scan.After, scan.Behind} {
			one, two := call(in), call(in)
			was := bytes.Clone(two)
			spoil(one)
			if string(in) != text || !bytes.Equal(two, was) || !bytes.Equal(call(in), was) {
				t.Errorf("rule 3: what was told of %q shares memory", text)
			}
		}
	}
}
