package tree_test

import (
	"fmt"
	"maps"
	"math/rand"
	"slices"
	"strings"
	"testing"

	"cambium/api"
	"cambium/disk"
	"cambium/pager"
	"cambium/tree"
)

// TestExample: Put a, Put b, Delete a: one leaf, two pages freed.
func TestExample(t *testing.T) { // P10.1, P10.3
	d := disk.New(8)
	p := pager.New(d, makePool(t, 8, 2), 1, 0)
	root := mustPut(t, p, 0, "a", "x", false)
	p = flushed(t, d, p, 2)
	root = mustPut(t, p, root, "b", "y", false)
	p = flushed(t, d, p, 3)
	root = mustDelete(t, p, root, "a")
	x := mustBeWhole(t, p, root, items{"b": "y"})
	if len(x.pages) != 1 || !slices.Equal(p.Pool().List(), []api.Freed{{Page: 2, Gen: 2}, {Page: 3, Gen: 3}}) {
		t.Errorf("P10.3: the tree has the pages %v, and freed are %v", x.pages, p.Pool().List())
	}
}

// TestExampleInOneTransaction: the page of the first leaf was fresh, so that it is used anew.
func TestExampleInOneTransaction(t *testing.T) { // P10.1, P10.3
	p := makePager(t, 8)
	root := mustPut(t, p, 0, "a", "x", false)
	mustBeWhole(t, p, root, items{"a": "x"})
	next := mustPut(t, p, root, "b", "y", false)
	mustBeWhole(t, p, next, items{"a": "x", "b": "y"})
	if next == root || slices.Contains(p.Fresh(), root) {
		t.Errorf("P10.3: the leaf says something else, and its page isn't dropped")
	}
	root = mustDelete(t, p, next, "a")
	x := mustBeWhole(t, p, root, items{"b": "y"})
	if len(x.pages) != 1 || p.Pool().High() != 4 {
		t.Errorf("P10.3: the tree has the pages %v, and the high mark is %d", x.pages, p.Pool().High())
	}
}

func TestNoItem(t *testing.T) { // P10.1, P10.2
	p := makePager(t, 8)
	for _, key := range []string{"", "a", long(100), long(101), "\x00", "\xff"} {
		mustNotGet(t, p, 0, key, api.NotFound)
		mustNotDelete(t, p, 0, key, api.NotFound)
	}
	mustBeWhole(t, p, 0, items{})
	if tree.Drop(p, 0) != api.OK || p.Pool().High() != 2 || len(p.Fresh()) != 0 {
		t.Errorf("P10.2: a tree without items dropped pages")
	}
	root := mustPut(t, p, 0, "k", "v", false)
	mustBeWhole(t, p, root, items{"k": "v"})
	mustNotGet(t, p, root, "j", api.NotFound)
	mustNotGet(t, p, root, "l", api.NotFound)
	mustNotDelete(t, p, root, "j", api.NotFound)
	mustNotDelete(t, p, root, "l", api.NotFound)
	mustBeWhole(t, p, root, items{"k": "v"})
	if root = mustDelete(t, p, root, "k"); root != 0 || len(p.Fresh()) != 0 {
		t.Errorf("P10.1: the root of no items is %d, and fresh are %v", root, p.Fresh())
	}
	mustBeWhole(t, p, 0, items{})
}

// edgeKeys: keys that may be, of the least and the most bytes, that begin alike, or are another one's beginning.
var edgeKeys = []string{
	"\x00", "\x00\x00", strings.Repeat("\x00", 99), strings.Repeat("\x00", 100), "\x01",
	"a", "a\x00", "aa", "aaa", "ab", "a\xff", "b", long(99), long(100),
	"same beginning 1", "same beginning 2", "same beginning 10", "same beginning",
	strings.Repeat("x", 100), strings.Repeat("x", 99) + "y", strings.Repeat("x", 99),
	"\xfe", "\xff", "\xff\x00", "\xff\xff", strings.Repeat("\xff", 99), strings.Repeat("\xff", 100),
}

// edgeLengths: how long values may be, at the edges.
var edgeLengths = []int{0, 1, 199, 200, 201, 1009, 1010, 1011, 2020, 2021, 16383, 16384}

func TestKeys(t *testing.T) { // P10.1
	for turn := range 8 {
		keys := slices.Clone(edgeKeys)
		rand.New(rand.NewSource(int64(turn))).Shuffle(len(keys), func(i, j int) { keys[i], keys[j] = keys[j], keys[i] })
		p := makePager(t, 200)
		root, all := 0, items{}
		for i, key := range keys {
			mustNotGet(t, p, root, key, api.NotFound)
			val := long(i * 9 % 201)
			root = mustPut(t, p, root, key, val, false)
			all[key] = val
			mustBeWhole(t, p, root, all)
		}
		for _, key := range keys {
			root = mustPut(t, p, root, key, key, true)
			all[key] = key
			mustBeWhole(t, p, root, all)
		}
		for _, key := range slices.Backward(keys) {
			root = mustDelete(t, p, root, key)
			delete(all, key)
			mustBeWhole(t, p, root, all)
			mustNotGet(t, p, root, key, api.NotFound)
			mustNotDelete(t, p, root, key, api.NotFound)
		}
	}
}

func TestKeysThatMayNotBe(t *testing.T) { // P10.1
	p := makePager(t, 200)
	root, all := 0, items{}
	for _, key := range edgeKeys {
		root = mustPut(t, p, root, key, "v", false)
		all[key] = "v"
	}
	high, freed := p.Pool().High(), p.Pool().List()
	for _, key := range []string{"", strings.Repeat("\x00", 101), strings.Repeat("x", 101), strings.Repeat("\xff", 101), long(200), long(256), long(356), long(1 << 16)} {
		for _, at := range []int{0, root, 1, 199, 200, -1} {
			for _, n := range []int{0, 5, 201, 16384, 16385} {
				mustNotPut(t, p, at, key, long(n), api.Arg)
			}
		}
		mustNotGet(t, p, root, key, api.NotFound)
		mustNotDelete(t, p, root, key, api.NotFound)
	}
	if p.Pool().High() != high || !slices.Equal(p.Pool().List(), freed) {
		t.Errorf("P10.1: a key that may not be changed which pages are used")
	}
	mustBeWhole(t, p, root, all)
}

func TestValues(t *testing.T) { // P10.1, P10.3
	for _, n := range edgeLengths {
		p := makePager(t, 60)
		root := mustPut(t, p, 0, "k", long(n), false)
		x := mustBeWhole(t, p, root, items{"k": long(n)})
		chain := 0
		if n > 200 {
			chain = (n + 1009) / 1010
		}
		if len(x.pages) != 1+chain || x.chains != chain {
			t.Errorf("P10.1: a value of %d bytes needs the pages %v, of which %d are a chain's", n, x.pages, x.chains)
		}
		for _, m := range edgeLengths {
			next := mustPut(t, p, root, "k", long(m), true)
			mustBeWhole(t, p, next, items{"k": long(m)})
			root = mustPut(t, p, next, "k", long(n), true)
			mustBeWhole(t, p, root, items{"k": long(n)})
		}
		root = mustPut(t, p, root, "j", "before", false)
		root = mustPut(t, p, root, "l", "behind", false)
		mustBeWhole(t, p, root, items{"j": "before", "k": long(n), "l": "behind"})
		root = mustDelete(t, p, root, "k")
		mustBeWhole(t, p, root, items{"j": "before", "l": "behind"})
	}
}

func TestValuesThatMayNotBe(t *testing.T) { // P10.1
	p := makePager(t, 60)
	root := mustPut(t, p, 0, "k", "v", false)
	for _, n := range []int{16385, 16386, 17000, 1 << 16, 1<<16 + 5} {
		for _, at := range []int{0, root, 1, 59, 60, -1} {
			mustNotPut(t, p, at, "k", long(n), api.Arg)
			mustNotPut(t, p, at, "other", long(n), api.Arg)
		}
	}
	mustBeWhole(t, p, root, items{"k": "v"})
	if p.Pool().High() != 3 {
		t.Errorf("P10.1: a value that may not be changed which pages are used")
	}
}

// TestAValueInPlaceOfAnother: of each length in place of each, in a leaf that it fills, in one that it splits, and amid others.
func TestAValueInPlaceOfAnother(t *testing.T) { // P10.1, P10.3
	lengths := []int{0, 1, 100, 199, 200, 201, 1010, 1011, 5000}
	for _, others := range []int{0, 3, 4, 5, 12, 40} {
		for _, n := range lengths {
			for _, m := range lengths {
				p := makePager(t, 300)
				root, all := 0, items{}
				for i := range others {
					key := fmt.Sprintf("%c%02d", "jl"[i%2], i)
					root = mustPut(t, p, root, key, long(190), false)
					all[key] = long(190)
				}
				root = mustPut(t, p, root, "k", long(n), false)
				mustBeWhole(t, p, root, more(all, "k", long(n)))
				root = mustPut(t, p, root, "k", long(m), true)
				mustBeWhole(t, p, root, more(all, "k", long(m)))
				root = mustDelete(t, p, root, "k")
				mustBeWhole(t, p, root, all)
			}
		}
	}
}

// TestTheSameValueAgain: nothing is another one, but that the item was there.
func TestTheSameValueAgain(t *testing.T) { // P10.1, P10.3
	for _, n := range edgeLengths {
		p := makePager(t, 80)
		root, all := 0, items{}
		for _, key := range []string{"a", "b", "c"} {
			root = mustPut(t, p, root, key, long(n), false)
			all[key] = long(n)
		}
		for _, key := range []string{"a", "b", "c", "a"} {
			root = mustPut(t, p, root, key, long(n), true)
			mustBeWhole(t, p, root, all)
		}
	}
}

// TestOneLeaf: as many items as a leaf has room for stand on one page; one more, or one byte more, makes two leaves and a branch.
func TestOneLeaf(t *testing.T) { // P10.1, P10.3
	for _, each := range []struct{ key, val, most int }{
		{2, 0, 202}, {3, 200, 4}, {100, 200, 3}, {100, 0, 9}, {10, 12, 40}, {10, 13, 38},
	} {
		if got := (1016 - 3) / (3 + each.key + each.val); got != each.most {
			t.Fatalf("the test's own numbers: %d, not %d", got, each.most)
		}
		p := makePager(t, 80)
		root, all := 0, items{}
		key := func(i int) string { return fmt.Sprintf("%c%c", 1+i/100, i%100) + strings.Repeat("k", each.key-2) }
		for i := range each.most {
			root = mustPut(t, p, root, key(i), long(each.val), false)
			all[key(i)] = long(each.val)
			if x := mustBeWhole(t, p, root, all); len(x.pages) != 1 {
				t.Fatalf("P10.3: %d items of %d bytes stand on the pages %v", len(all), each.key+each.val, x.pages)
			}
		}
		for _, i := range []int{-1, each.most, each.most / 2} {
			at := key(0)[:1]
			if i >= 0 {
				at = key(i)[:each.key-1] + "l"
			}
			at += strings.Repeat("z", each.key-len(at))
			next := mustPut(t, p, root, at, long(each.val), false)
			if x := mustBeWhole(t, p, next, more(all, at, long(each.val))); x.levels != 2 || x.leaves != 2 {
				t.Fatalf("P10.3: one item more than a leaf has room for: %v", x.widths)
			}
			root = mustDelete(t, p, next, at)
			if x := mustBeWhole(t, p, root, all); len(x.pages) != 1 {
				t.Fatalf("P10.3: what fits into one leaf stands on %v", x.pages)
			}
		}
	}
}

// TestALeafToItsLastByte: a leaf of 1016 bytes is one page, and with one byte more two leaves.
func TestALeafToItsLastByte(t *testing.T) { // P10.1, P10.3
	p := makePager(t, 40)
	root, all := 0, items{}
	for i, n := range []int{200, 200, 200, 200, 188} { // 3, and of each 3, a key of 2, and it
		key := fmt.Sprintf("k%d", i)
		root = mustPut(t, p, root, key, long(n), false)
		all[key] = long(n)
	}
	if x := mustBeWhole(t, p, root, all); len(x.pages) != 1 {
		t.Fatalf("P10.3: a leaf of 1016 bytes stands on %v", x.pages)
	}
	for _, key := range []string{"k4", "k4\x00"} {
		val, was := long(189), true
		if key != "k4" {
			val, was = "", false
		}
		next := mustPut(t, p, root, key, val, was)
		if x := mustBeWhole(t, p, next, more(all, key, val)); x.leaves != 2 || x.levels != 2 {
			t.Fatalf("P10.3: a leaf with one byte, or item, too much: %v", x.widths)
		}
		if was {
			root = mustPut(t, p, next, "k4", long(188), true)
		} else {
			root = mustDelete(t, p, next, key)
		}
		if x := mustBeWhole(t, p, root, all); len(x.pages) != 1 {
			t.Fatalf("P10.3: a leaf of 1016 bytes stands on %v", x.pages)
		}
	}
}

// orders: rows of numbers below n, each once.
func orders(n int) map[string][]int {
	out := map[string][]int{"rising": {}, "falling": {}, "from both ends": {}, "from the middle": {}}
	for i := range n {
		out["rising"] = append(out["rising"], i)
		out["falling"] = append(out["falling"], n-1-i)
		both := i / 2
		if i%2 == 1 {
			both = n - 1 - i/2
		}
		out["from both ends"] = append(out["from both ends"], both)
	}
	out["from the middle"] = slices.Clone(out["from both ends"])
	slices.Reverse(out["from the middle"])
	for seed := range 3 {
		out[fmt.Sprintf("any order %d", seed)] = rand.New(rand.NewSource(int64(seed))).Perm(n)
	}
	return out
}

// kinds: items of several kinds, by their numbers: such as make leaves of many cells or few, branches of many kids or few.
func kinds() map[string]func(i int) (string, string) {
	return map[string]func(i int) (string, string){
		"short":        func(i int) (string, string) { return fmt.Sprintf("%04d", i), "" },
		"long keys":    func(i int) (string, string) { return fmt.Sprintf("%04d", i) + strings.Repeat("k", 96), "v" },
		"long ones":    func(i int) (string, string) { return strings.Repeat("k", 96) + fmt.Sprintf("%04d", i), long(200) },
		"great values": func(i int) (string, string) { return fmt.Sprintf("key %04d", i), long(190 + i%30) },
		"all lengths": func(i int) (string, string) {
			return fmt.Sprintf("%04d", i*7919%10000) + strings.Repeat("k", i*31%97), long(i * 17 % 230)
		},
	}
}

// sortedNames: the names of a table's rows, so that the tests run in one order.
func sortedNames[V any](m map[string]V) []string {
	return slices.Sorted(maps.Keys(m))
}

// TestOrders: items are put in each order, and deleted in each.
func TestOrders(t *testing.T) { // P10.1, P10.3
	const n = 150
	most := 0
	for _, kind := range sortedNames(kinds()) {
		item := kinds()[kind]
		for _, up := range sortedNames(orders(n)) {
			for _, down := range sortedNames(orders(n)) {
				p := makePager(t, 900)
				root, all := 0, items{}
				for i, no := range orders(n)[up] {
					key, val := item(no)
					root = mustPut(t, p, root, key, val, false)
					all[key] = val
					if i%43 == 0 || up == down && i%6 == 0 {
						most = max(most, lightly(t, p, root, all))
					}
				}
				mustBeWhole(t, p, root, all)
				for i, no := range orders(n)[down] {
					key, _ := item(no)
					root = mustDelete(t, p, root, key)
					delete(all, key)
					if i%43 == 0 || up == down && i%6 == 0 {
						lightly(t, p, root, all)
					}
				}
				if root != 0 || len(p.Fresh()) != 0 {
					t.Fatalf("P10.1: %s, put %s and deleted %s: the root %d and the fresh pages %v are left", kind, up, down, root, p.Fresh())
				}
				mustBeWhole(t, p, 0, items{})
			}
		}
	}
	if most < 4 {
		t.Errorf("no tree here has more than %d levels", most)
	}
}

// lightly: a tree has these items, is tight and whole, without each being asked for by Get; how many levels it has.
func lightly(t *testing.T, p *pager.Pager, root int, want items) int {
	t.Helper()
	x := plainTree(t, p, root)
	if !maps.Equal(x.items, want) {
		t.Fatalf("P10.1: the tree has %d items, not these %d, or other ones", len(x.items), len(want))
	}
	if !x.tight || len(x.pages) > 16+x.bytes/100+x.chains {
		t.Fatalf("P10.3: the tree isn't tight, or has too many pages: %v", x.widths)
	}
	mustTight(t, p, root, true)
	mustPart(t, p, x.pages)
	return x.levels
}

// TestLevels: trees of each number of levels have what was put, and not what wasn't; an item more or less is one.
func TestLevels(t *testing.T) { // P10.1, P10.2, P10.3
	p := makePager(t, 2048)
	root, all := 0, items{}
	seen := map[int]bool{}
	item := func(i int) (string, string) {
		return fmt.Sprintf("%04d", i) + strings.Repeat("k", 96), long(190)
	}
	for i := range 1500 {
		key, val := item(1499 - i)
		root = mustPut(t, p, root, key, val, false)
		all[key] = val
		if i%10 != 0 {
			continue
		}
		if x := plainTree(t, p, root); !seen[x.levels] {
			seen[x.levels] = true
			mustBeWhole(t, p, root, all)
			for no := range 1500 {
				key, val := item(no)
				if _, ok := all[key]; ok {
					mustGet(t, p, root, key, val)
				} else {
					mustNotGet(t, p, root, key, api.NotFound)
					mustNotDelete(t, p, root, key, api.NotFound)
				}
				mustNotGet(t, p, root, key[:99], api.NotFound)
				mustNotGet(t, p, root, key+"k", api.NotFound)
				mustNotGet(t, p, root, key[:99]+"l", api.NotFound)
			}
			mustBeWhole(t, p, root, all)
		}
	}
	for levels := 1; levels <= 5; levels++ {
		if !seen[levels] {
			t.Errorf("no tree here has %d levels", levels)
		}
	}
	if e := tree.Drop(p, root); e != api.OK || len(p.Fresh()) != 0 {
		t.Errorf("P10.2: Drop: code %d, and fresh are %v", e, p.Fresh())
	}
	mustPart(t, p, nil)
}

// TestTheLastOneWins: a key has one value, the one that was put last.
func TestTheLastOneWins(t *testing.T) { // P10.1
	p := makePager(t, 400)
	root, all := 0, items{}
	random := rand.New(rand.NewSource(10))
	for range 1500 {
		key, val := fmt.Sprintf("key %d", random.Intn(60)), long(random.Intn(260))
		_, was := all[key]
		root = mustPut(t, p, root, key, val, was)
		all[key] = val
		mustGet(t, p, root, key, val)
	}
	mustBeWhole(t, p, root, all)
}

// TestTwoTrees: trees beside one another on a disk don't touch each other.
func TestTwoTrees(t *testing.T) { // P10.1, P10.2, P10.3
	p := makePager(t, 900)
	var roots [3]int
	all := [3]items{{}, {}, {}}
	random := rand.New(rand.NewSource(1010))
	for i := range 1200 {
		one := random.Intn(3)
		key := fmt.Sprintf("key %d", random.Intn(80))
		if _, ok := all[one][key]; ok && random.Intn(3) > 0 {
			roots[one] = mustDelete(t, p, roots[one], key)
			delete(all[one], key)
		} else {
			val := long(random.Intn(240))
			roots[one] = mustPut(t, p, roots[one], key, val, ok)
			all[one][key] = val
		}
		if i%50 == 0 {
			var pages []int
			for one, root := range roots {
				pages = append(pages, mustBeTight(t, p, root, all[one]).pages...)
			}
			mustPart(t, p, pages)
		}
	}
	for one := range roots {
		if e := tree.Drop(p, roots[one]); e != api.OK {
			t.Errorf("P10.2: Drop: code %d", e)
		}
		roots[one], all[one] = 0, items{}
		var pages []int
		for one, root := range roots {
			pages = append(pages, mustBeTight(t, p, root, all[one]).pages...)
		}
		mustPart(t, p, pages)
	}
}
