package base_test

import (
	"fmt"
	"strings"
	"testing"

	"cambium/api"
)

// mustAgreeAll: what a transaction tells of its trees is what it should.
func (x *pairTx) mustAgreeAll(t *testing.T) {
	t.Helper()
	mustTell(t, "P13.2: a transaction", x.x, x.plain.all)
}

// TestPutNames: which names a new tree may have.
func TestPutNames(t *testing.T) { // P13.3
	good := []string{"a", "z", "-", "--", "spans", "a-b", strings.Repeat("z", 24), strings.Repeat("-", 24)}
	bad := []string{
		"", "A", "Z", "Bad", "a_", "a b", " a", "a ", "a0", "0", "a.b", "`", "{", ",", ".", "é", "aé", "a\x00", "\xff", "a\xff",
		strings.Repeat("a", 25), strings.Repeat("-", 25), strings.Repeat("a", 1000),
	}
	b := makePair(t, 100)
	x := b.begin(1)
	for _, name := range bad {
		mustNotPut(t, x.x, name, "k", "v", api.Arg)
		mustNotPut(t, x.x, name, "", long(16385), api.Arg)
		mustNotPut(t, x.x, name, "k", long(16000), api.Arg)
		mustDelete(t, x.x, name, "k", api.NotFound)
		mustDrop(t, x.x, name, api.NotFound)
	}
	x.mustAgreeAll(t)
	for _, name := range good {
		if x.put(t, name, "k", "v") != api.OK {
			t.Errorf("P13.3: Put of a tree %q isn't OK", name)
		}
	}
	for _, name := range bad {
		mustNotPut(t, x.x, name, "k", "v", api.Arg)
	}
	x.mustAgreeAll(t)
	x.commit(t)
}

// TestPutLimit: there are as many roots as there may be; a name that may not be is told ahead of that.
func TestPutLimit(t *testing.T) { // P13.3
	b := makePair(t, 100)
	x := b.begin(1)
	for i := range 12 {
		if x.put(t, string(rune('a'+2*i)), "k", "v") != api.OK {
			t.Fatalf("P13.3: Put of tree %d isn't OK", i)
		}
	}
	for range 2 {
		for _, name := range []string{"-", "b", "zz", "aa", strings.Repeat("a", 24)} {
			mustNotPut(t, x.x, name, "k", "v", api.Limit)
			mustNotPut(t, x.x, name, "", "v", api.Limit)
			mustNotPut(t, x.x, name, "k", long(16385), api.Limit)
			mustDelete(t, x.x, name, "k", api.NotFound)
			mustDrop(t, x.x, name, api.NotFound)
		}
		mustNotPut(t, x.x, "", "k", "v", api.Arg)
		mustNotPut(t, x.x, "Bad", "k", "v", api.Arg)
		mustNotPut(t, x.x, strings.Repeat("a", 25), "k", "v", api.Arg)
		// One that is there has more items, or other ones.
		x.put(t, "a", "l", "v")
		x.put(t, "a", "k", "w")
		x.mustAgreeAll(t)
		x.commit(t)
		x = b.begin(9)
	}
	// Where one goes, another one may come.
	x.delete(t, "c", "k")
	x.put(t, "b", "k", "v")
	x.put(t, "c", "k", "v")
	x.drop(t, "e")
	x.put(t, "c", "k", "v")
	x.put(t, "e", "k", "v")
	x.mustAgreeAll(t)
	x.commit(t)
}

// TestPutKeysAndValues: what layer 10 refuses is told, of a tree that there is and of one that there isn't, and changes nothing.
func TestPutKeysAndValues(t *testing.T) { // P13.3
	b := makePair(t, 200)
	x := b.begin(1)
	for _, name := range []string{"a", "b"} {
		for _, key := range []string{"", strings.Repeat("k", 101), strings.Repeat("k", 3000)} {
			for _, n := range []int{0, 1, 16384, 16385} {
				mustNotPut(t, x.x, name, key, long(n), api.Arg)
			}
			mustDelete(t, x.x, name, key, api.NotFound)
		}
		mustNotPut(t, x.x, name, "k", long(16385), api.Arg)
		mustNotPut(t, x.x, name, strings.Repeat("k", 100), long(70000), api.Arg)
		x.mustAgreeAll(t)
		x.put(t, "a", strings.Repeat("k", 100), long(16384))
		x.put(t, "a", "\x00", "")
		x.put(t, "a", "\xff", long(200))
		x.put(t, "a", "k", long(201))
	}
	x.mustAgreeAll(t)
	x.commit(t)
}

// TestGreatValues: values of many pages come, become others, and go.
func TestGreatValues(t *testing.T) { // P13.3, P13.5, P13.6
	b := makePair(t, 300)
	for _, n := range []int{200, 201, 1010, 1011, 2020, 2021, 5000, 16384, 0, 16384, 200} {
		x := b.begin(99)
		x.put(t, "a", "k", long(n))
		x.put(t, "b", keyOf(n), long(n))
		x.mustAgreeAll(t)
		x.commit(t)
	}
	x := b.begin(99)
	x.drop(t, "b")
	x.delete(t, "a", "k")
	x.commit(t)
}

// TestDelete: an item goes; the root of a tree goes with its last item, and comes again with the first.
func TestDelete(t *testing.T) { // P13.3, P13.5
	b := makePair(t, 60)
	x := b.begin(1)
	mustDelete(t, x.x, "a", "k", api.NotFound)
	for i := range 30 {
		x.put(t, "a", keyOf(i), long(100))
	}
	x.put(t, "b", "k", "v")
	x.commit(t)
	x = b.begin(2)
	mustDelete(t, x.x, "a", "no key", api.NotFound)
	mustDelete(t, x.x, "b", keyOf(1), api.NotFound)
	for i := range 30 {
		if x.delete(t, "a", keyOf(i)) != api.OK {
			t.Fatalf("P13.3: Delete isn't OK")
		}
		mustDelete(t, x.x, "a", keyOf(i), api.NotFound)
		x.mustAgreeAll(t)
	}
	mustDrop(t, x.x, "a", api.NotFound)
	x.commit(t)
	if list := b.base.Roots(); len(list) != 1 || list[0].Name != "b" {
		t.Errorf("P13.3: the roots are %v, not b's alone", list)
	}
	x = b.begin(3)
	x.put(t, "a", "again", "v")
	x.delete(t, "a", "again")
	x.put(t, "a", "again", long(500))
	x.commit(t)
	x = b.begin(4)
	x.delete(t, "a", "again")
	x.delete(t, "b", "k")
	x.commit(t)
	if len(b.base.Roots()) != 0 || len(bookOf(t, b.base).Roots) != 0 || b.plain.meta.Root != 0 {
		t.Errorf("P13.4: a version of no roots has a page of roots")
	}
}

// TestDrop: a tree goes with all its pages.
func TestDrop(t *testing.T) { // P13.3, P13.5
	b := makePair(t, 400)
	x := b.begin(1)
	for i := range 60 {
		x.put(t, "a", keyOf(i), long(i*50))
		x.put(t, "b", keyOf(i), long(90))
	}
	x.commit(t)
	x = b.begin(2)
	mustDrop(t, x.x, "c", api.NotFound)
	mustDrop(t, x.x, "", api.NotFound)
	if x.drop(t, "a") != api.OK || x.drop(t, "a") != api.NotFound {
		t.Errorf("P13.3: Drop")
	}
	mustDelete(t, x.x, "a", keyOf(1), api.NotFound)
	x.mustAgreeAll(t)
	x.put(t, "a", "k", long(700))
	x.commit(t)
	x = b.begin(3)
	x.drop(t, "b")
	x.put(t, "b", "k", "v")
	x.drop(t, "b")
	x.drop(t, "a")
	x.mustAgreeAll(t)
	x.commit(t)
	book := bookOf(t, b.base)
	if len(book.Trees)+len(book.Roots) != 0 {
		t.Errorf("P13.5: the pages %+v of a version without trees", book)
	}
}

// manyVersions: a pair of bases at a version, pages of which were freed in many versions.
func manyVersions(t *testing.T, pages int) *pair {
	t.Helper()
	b := makePair(t, pages)
	for round := range 8 {
		x := b.begin(0)
		for i := range 9 {
			x.put(t, "a", keyOf(i+round%3), long(150))
		}
		x.put(t, "b", keyOf(round), long(1500))
		x.commit(t)
	}
	return b
}

// TestHorizon: pages are used anew up to a horizon of 0, below, at and above the version; above it is as at it.
func TestHorizon(t *testing.T) { // P13.3, P13.5, P13.6
	versions := map[string]int{}
	for _, horizon := range []uint64{0, 1, 2, 3, 4, 5, 6, 8, 9, 10, 11, 1 << 60, 1<<64 - 1} {
		b := manyVersions(t, 400)
		if b.plain.meta.Gen != 9 {
			t.Fatalf("the test's own version is %d, not 9", b.plain.meta.Gen)
		}
		v, was := b.base.View(), b.plain.all
		x := b.begin(horizon)
		for i := range 7 {
			x.put(t, "c", keyOf(i), long(8000))
		}
		x.drop(t, "a")
		x.trim(t)
		x.commit(t)
		mustTell(t, "P13.6: a view of the version ahead", v, was)
		versions[fmt.Sprint(b.plain.book(t))]++
	}
	// Those at the version and above it are alike; each of the others is another one.
	if len(versions) < 6 {
		t.Errorf("the test's own horizons make but %d versions", len(versions))
	}
}

// TestTrim: with nothing to trim, with much, up to which version, and in the midst of what is written.
func TestTrim(t *testing.T) { // P13.3
	b := makePair(t, 500)
	x := b.begin(1)
	mustTrim(t, x.x, 0)
	x.put(t, "b", "k", "v")
	for i := range 40 {
		x.put(t, "a", keyOf(i), long(1000))
	}
	x.commit(t)
	x = b.begin(2)
	x.drop(t, "a")
	x.trim(t)
	x.commit(t)
	for range 2 {
		// The pages that tell of the version come down to where a's were.
		x = b.begin(b.plain.meta.Gen)
		x.commit(t)
	}
	high := bookOf(t, b.base).High
	for _, c := range []struct {
		horizon uint64
		some    bool
	}{{0, false}, {3, false}, {4, true}, {1 << 63, true}} {
		x := b.begin(c.horizon)
		n := x.trim(t)
		if c.some != (n > 20) || !c.some && n != 0 {
			t.Errorf("P13.3: Trim up to %d: %d", c.horizon, n)
		}
		if x.trim(t) != 0 {
			t.Errorf("P13.3: Trim behind Trim isn't 0")
		}
		x.x.Abort()
		if got := bookOf(t, b.base).High; got != high {
			t.Errorf("P13.4: the high mark is %d behind an Abort, not %d", got, high)
		}
	}
	x = b.begin(4)
	n := x.trim(t)
	x.put(t, "a", "k", long(16000))
	x.delete(t, "a", "k")
	x.trim(t)
	x.put(t, "a", "k", long(3000))
	x.commit(t)
	if got := bookOf(t, b.base).High; got >= high || n == 0 {
		t.Errorf("P13.3: the high mark is %d, and was %d, though %d pages were trimmed", got, high, n)
	}
	for range 4 {
		x = b.begin(99)
		x.trim(t)
		x.commit(t)
	}
	x = b.begin(99)
	x.drop(t, "a")
	x.drop(t, "b")
	x.commit(t)
	for range 5 {
		x = b.begin(99)
		x.trim(t)
		x.commit(t)
	}
	if got := bookOf(t, b.base); got.High > 5 {
		t.Errorf("P13.3: the pages %+v of an empty version that was trimmed", got)
	}
}

// TestPieces: as many freed pages as need no piece, one, two and many, in versions where they may be used anew and where not.
func TestPieces(t *testing.T) { // P13.4, P13.5
	counts := map[int]bool{}
	for _, horizon := range []uint64{0, 99} {
		for _, n := range []int{0, 1, 16, 64, 76, 78, 79, 80, 81, 82, 83, 84, 160, 163, 164, 165, 166, 167, 500} {
			b := makePair(t, api.MaxPages)
			x := b.begin(1)
			for i := range n {
				x.put(t, "a", fmt.Sprint(i/16), long(1010*(i%16+1)))
			}
			x.put(t, "b", "k", "v")
			x.commit(t)
			counts[len(b.plain.pieces)] = true
			x = b.begin(horizon)
			x.drop(t, "a")
			x.commit(t)
			for range 2 {
				counts[len(b.plain.pieces)] = true
				x = b.begin(horizon)
				x.commit(t)
			}
		}
	}
	for _, count := range []int{0, 1, 2, 3} {
		if !counts[count] {
			t.Errorf("the test's own versions never have %d pieces", count)
		}
	}
}

// TestPiecesThatAreFreed: where the pieces' own pages are freed ones, fewer are told, and the last pieces may be empty.
func TestPiecesThatAreFreed(t *testing.T) { // P13.4, P13.5
	for n := 78; n < 178; n++ {
		if n == 90 {
			n = 162
		}
		b := makePair(t, 600)
		x := b.begin(1)
		for i := range n {
			x.put(t, "a", fmt.Sprint(i%7), long(1010*(i/7+1)))
			if i >= 112 {
				x.put(t, "b", fmt.Sprint(i%7), long(1010*(i/7-15)))
			}
		}
		x.drop(t, "a")
		x.drop(t, "b")
		x.commit(t)
		x = b.begin(2)
		x.commit(t)
	}
}
