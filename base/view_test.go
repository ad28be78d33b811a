package base_test

import (
	"fmt"
	"slices"
	"strings"
	"testing"

	"cambium/api"
	"cambium/base"
	"cambium/disk"
)

// between: the items whose keys are at least from, and below to, if that isn't empty, the first most of them.
func between(all items, from, to string, most int) []api.Item {
	var out []api.Item
	for _, x := range inOrder(all) {
		if string(x.Key) >= from && (to == "" || string(x.Key) < to) && len(out) < most {
			out = append(out, x)
		}
	}
	return out
}

// mustItemsOf: Items answers what it should of all kinds of keys and numbers.
func mustItemsOf(t *testing.T, what string, r reader, name string, all items) {
	t.Helper()
	n := len(all)
	for _, from := range []string{"", "key", keyOf(0), keyOf(3), keyOf(3) + "\x00", keyOf(n - 1), "z", strings.Repeat("k", 300)} {
		for _, to := range []string{"", keyOf(0), keyOf(3), keyOf(4), keyOf(n), "a", "z"} {
			for _, most := range []int{-1 << 62, -1, 0, 1, 2, n - 1, n, n + 1, 1 << 62} {
				mustItems(t, what, r, name, from, to, most, between(all, from, to, most))
			}
		}
	}
}

// TestItems: from, to and most of all kinds, of views and of transactions.
func TestItems(t *testing.T) { // P13.2
	b := mustOpen(t, disk.New(200))
	x := b.Begin(1)
	want := trees{}
	for i := range 40 {
		want = want.with("spans", keyOf(i), long(i*i))
		mustPut(t, x, "spans", keyOf(i), long(i*i), false)
	}
	want = want.with("other", "k", "")
	mustPut(t, x, "other", "k", "", false)
	for _, name := range []string{"spans", "other", "none", "Bad", ""} {
		mustItemsOf(t, "P13.2: a transaction", x, name, want[name])
		mustItemsOf(t, "P13.2: a view of version 1", b.View(), name, nil)
	}
	mustStep(t, x, false)
	mustItemsOf(t, "P13.2: a transaction behind its first step", x, "spans", want["spans"])
	mustCommit(t, b, x, 2)
	for _, name := range []string{"spans", "other", "none", "Bad", ""} {
		mustItemsOf(t, "P13.2: a view of version 2", b.View(), name, want[name])
	}
}

// TestTxSeesWhatItWrites: a transaction tells the version in which it began, and what it has written since; views don't.
func TestTxSeesWhatItWrites(t *testing.T) { // P13.2, P13.3, P13.4
	b := mustOpen(t, disk.New(100))
	x := b.Begin(1)
	first := trees{"a": {"k": "1", "l": long(300)}, "b": {"k": long(5000)}}
	for name, all := range first {
		for key, val := range all {
			mustPut(t, x, name, key, val, false)
		}
	}
	mustCommit(t, b, x, 2)
	x = b.Begin(2)
	mustTell(t, "P13.2: a transaction at its beginning", x, first)
	mustPut(t, x, "a", "k", "2", true)
	want := first.with("a", "k", "2")
	mustTell(t, "P13.2: behind Put of an item that was", x, want)
	mustPut(t, x, "a", "m", long(2000), false)
	want = want.with("a", "m", long(2000))
	mustTell(t, "P13.2: behind Put of a new item", x, want)
	mustPut(t, x, "c", "k", "3", false)
	want = want.with("c", "k", "3")
	mustTell(t, "P13.2: behind Put of a new tree", x, want)
	mustDelete(t, x, "a", "l", api.OK)
	want = want.without("a", "l")
	mustTell(t, "P13.2: behind Delete", x, want)
	mustDelete(t, x, "b", "k", api.OK)
	want = want.without("b", "k")
	mustTell(t, "P13.2: behind Delete of a tree's last item", x, want)
	mustDrop(t, x, "a", api.OK)
	delete(want, "a")
	mustTell(t, "P13.2: behind Drop", x, want)
	mustBe(t, "P13.3: ahead of the commit", b, 2, first)
	mustCommit(t, b, x, 3)
	mustBe(t, "P13.4: behind the commit", b, 3, want)
}

// TestRoots: the roots are by rising names, each with its tree's items, and those of a version alone.
func TestRoots(t *testing.T) { // P13.2, P13.3
	b := mustOpen(t, disk.New(100))
	x := b.Begin(1)
	for i, name := range []string{"z", "a", "m-n", "-", "zz", "ab"} {
		for k := range i + 1 {
			mustPut(t, x, name, keyOf(k), "v", false)
		}
	}
	if len(b.Roots()) != 0 {
		t.Errorf("P13.2: roots of a version that isn't committed: %v", b.Roots())
	}
	mustCommit(t, b, x, 2)
	var got []string
	for _, r := range b.Roots() {
		got = append(got, fmt.Sprint(r.Name, " ", r.Count))
	}
	if !slices.Equal(got, []string{"- 4", "a 2", "ab 6", "m-n 3", "z 1", "zz 5"}) {
		t.Errorf("P13.2: the roots are %v", got)
	}
}

// TestViewsOfElderVersions: each tells its version, whatever is committed, as long as no horizon is above it.
func TestViewsOfElderVersions(t *testing.T) { // P13.2, P13.6
	b := mustOpen(t, disk.New(1500))
	want := trees{}
	var views []*base.View
	var told []trees
	for round := range 24 {
		views, told = append(views, b.View()), append(told, want)
		x := b.Begin([]uint64{1, 0, 1}[round%3])
		name := string(rune('a' + round%3))
		for i := range 6 {
			key, val := keyOf((round*5+i)%17), long((round*i*13)%1500)
			if _, e := x.Put(name, []byte(key), []byte(val)); e != api.OK {
				t.Fatalf("P13.3: Put: code %d", e)
			}
			want = want.with(name, key, val)
		}
		if round%7 == 3 {
			mustDrop(t, x, "a", api.OK)
			delete(want, "a")
		}
		// What goes here are pages that the transaction itself put and dropped.
		x.Trim()
		mustCommit(t, b, x, uint64(round+2))
		mustBe(t, "the newest", b, uint64(round+2), want)
	}
	for i, v := range views {
		if v.Version() != uint64(i+1) {
			t.Errorf("P13.2: a view of version %d tells version %d", i+1, v.Version())
		}
		mustTell(t, fmt.Sprintf("P13.6: a view of version %d", i+1), v, told[i])
	}
}

// TestTwoViews: two views of elder versions stay, while transactions use pages anew up to the elder one.
func TestTwoViews(t *testing.T) { // P13.3, P13.6
	b := mustOpen(t, disk.New(120))
	want := trees{}
	version := uint64(1)
	write := func(horizon uint64) {
		t.Helper()
		x := b.Begin(horizon)
		for i := range 8 {
			key, val := keyOf(i), long(int(version)*31%190+i)
			if _, e := x.Put("a", []byte(key), []byte(val)); e != api.OK {
				t.Fatalf("P13.3: Put: code %d", e)
			}
			want = want.with("a", key, val)
		}
		version++
		mustCommit(t, b, x, version)
		mustBe(t, "the newest", b, version, want)
	}
	for range 5 {
		write(version)
	}
	first, one := b.View(), want
	for range 3 {
		write(first.Version())
	}
	second, two := b.View(), want
	for range 8 {
		write(first.Version())
		mustTell(t, "P13.6: the first view", first, one)
		mustTell(t, "P13.6: the second view", second, two)
	}
	before := bookOf(t, b).High
	for range 8 {
		write(second.Version())
		mustTell(t, "P13.6: the second view", second, two)
	}
	x := b.Begin(version)
	if n, e := x.Trim(); e != api.OK || before-n < 2 {
		t.Errorf("P13.3: Trim: %d and code %d", n, e)
	}
	x.Abort()
	mustTell(t, "P13.6: the second view, behind an Abort", second, two)
}

// TestViewsOfOneVersion: they are alike, and hang on each other in nothing.
func TestViewsOfOneVersion(t *testing.T) { // P13.2
	b := mustOpen(t, disk.New(30))
	x := b.Begin(1)
	mustPut(t, x, "a", "k", "v", false)
	mustCommit(t, b, x, 2)
	v, w := b.View(), b.View()
	if v == w {
		t.Errorf("rule 3: two views are one")
	}
	mustTell(t, "P13.2: a view", v, trees{"a": {"k": "v"}})
	mustTell(t, "P13.2: another view", w, trees{"a": {"k": "v"}})
}
