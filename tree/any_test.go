package tree_test

import (
	"bytes"
	"fmt"
	"maps"
	"math/rand"
	"slices"
	"strings"
	"testing"

	"cambium/api"
	"cambium/disk"
	"cambium/node"
	"cambium/pager"
	"cambium/tree"
)

// anyKey: a key that may be, one of so many, or of fewer.
func anyKey(random *rand.Rand, kinds int) string {
	no := random.Intn(kinds)
	switch no % 5 {
	case 0:
		return string(byte(no))
	case 1:
		return fmt.Sprintf("key %d", no)
	case 2:
		return strings.Repeat(string(byte('a'+no%3)), 1+no*5%100)
	}
	return fmt.Sprintf("%03d", no) + strings.Repeat("k", 97)
}

// anyValue: a value that may be, most often a short one.
func anyValue(random *rand.Rand) string {
	if random.Intn(12) == 0 {
		return long(edgeLengths[random.Intn(len(edgeLengths))])
	}
	return long(random.Intn(230))
}

// anyChange: an item more, another one, or less, in the tree and in what it is to have, which is about so many items in the end.
func anyChange(t *testing.T, random *rand.Rand, p *pager.Pager, root int, all items, about int) int {
	t.Helper()
	key := anyKey(random, 2*about)
	_, was := all[key]
	if len(all) > random.Intn(2*about) {
		if !was {
			mustNotDelete(t, p, root, key, api.NotFound)
			mustNotGet(t, p, root, key, api.NotFound)
			return root
		}
		delete(all, key)
		return mustDelete(t, p, root, key)
	}
	val := anyValue(random)
	all[key] = val
	return mustPut(t, p, root, key, val, was)
}

// TestAnyScript: whatever is put and deleted, behind each call the tree has what it is to have, is tight, and has all pages that aren't freed.
func TestAnyScript(t *testing.T) { // P10.1 to P10.3
	levels := 0
	for seed := range 12 {
		random := rand.New(rand.NewSource(int64(seed)))
		p := makePager(t, 1500)
		root, all := 0, items{}
		about := 10 << (seed % 6)
		for i := range 300 {
			was := saysOf(t, p, plainTree(t, p, root).pages)
			root = anyChange(t, random, p, root, all, about)
			x := plainTree(t, p, root)
			mustMove(t, p, was, x.pages)
			levels = max(levels, lightly(t, p, root, all))
			if i%20 == 0 {
				mustBeWhole(t, p, root, all)
			}
		}
		for _, key := range slices.Sorted(maps.Keys(all)) {
			root = mustDelete(t, p, root, key)
			delete(all, key)
			lightly(t, p, root, all)
		}
	}
	if levels < 3 {
		t.Errorf("no tree here has more than %d levels", levels)
	}
}

// TestOneAnswer: what is told hangs on what was given before, and on nothing else.
func TestOneAnswer(t *testing.T) { // P10.1 to P10.3
	var roots, highs [2]int
	var pages [2][]int
	var says [2]map[int][]byte
	for turn := range 2 {
		random := rand.New(rand.NewSource(77))
		p := makePager(t, 1500)
		root, all := 0, items{}
		for range 400 {
			root = anyChange(t, random, p, root, all, 100)
		}
		pages[turn], _ = tree.Pages(p, root)
		roots[turn], highs[turn], says[turn] = root, p.Pool().High(), saysOf(t, p, pages[turn])
	}
	if roots[0] != roots[1] || highs[0] != highs[1] || !slices.Equal(pages[0], pages[1]) || !maps.EqualFunc(says[0], says[1], bytes.Equal) {
		t.Errorf("rule 5: the same calls made the roots %v, the pages %v, and the high marks %v", roots, pages, highs)
	}
}

// anyNode: a node that may be, whose kids and chains are any pages.
func anyNode(random *rand.Rand, pages int) node.Node {
	var keys [][]byte
	for range random.Intn(4) {
		keys = append(keys, []byte(anyKey(random, 120)))
	}
	slices.SortFunc(keys, bytes.Compare)
	keys = slices.CompactFunc(keys, bytes.Equal)
	if random.Intn(5) < 2 {
		b := &node.Branch{Keys: keys}
		for range len(keys) + 1 {
			b.Kids = append(b.Kids, 2+random.Intn(pages))
		}
		return b
	}
	l := &node.Leaf{}
	for _, key := range keys {
		c := node.Cell{Key: key, Inline: []byte(long(random.Intn(201)))}
		if random.Intn(4) == 0 {
			c = node.Cell{Key: key, Size: 201 + random.Intn(2), Head: 2 + random.Intn(pages)}
		}
		l.Cells = append(l.Cells, c)
	}
	return l
}

// anyDisk: a disk of pages that say any nodes and chains; some are torn, or say something else.
func anyDisk(t *testing.T, random *rand.Rand, pages int) *disk.Disk {
	t.Helper()
	d := disk.New(200)
	for no := 2; no < pages+2; no++ {
		switch random.Intn(14) {
		case 0:
			writeSays(t, d, no, []byte{7})
		case 1:
		case 2, 3:
			writeSays(t, d, no, node.Link(0, []byte(long(201+random.Intn(2)))))
		case 4:
			writeSays(t, d, no, node.Link(2+random.Intn(pages), []byte(long(101))))
		default:
			writeSays(t, d, no, anyNode(random, pages).Pay())
		}
	}
	return d
}

// plainPages: all pages of what is below one, by the chapter's words, or the first code that a page of it gives.
func plainPages(p *pager.Pager, no, level int, leaves *int, pages []int) ([]int, api.Code) {
	if slices.Contains(pages, no) {
		return nil, api.Malformed
	}
	n, e := p.Node(no)
	if e != api.OK {
		return nil, e
	}
	pages = append(pages, no)
	if b, ok := n.(*node.Branch); ok {
		for _, kid := range b.Kids {
			if pages, e = plainPages(p, kid, level+1, leaves, pages); e != api.OK {
				return nil, e
			}
		}
		return pages, api.OK
	}
	if *leaves == 0 {
		*leaves = level
	}
	if *leaves != level {
		return nil, api.Malformed
	}
	for _, c := range n.(*node.Leaf).Cells {
		if c.Size == 0 {
			continue
		}
		_, chain, e := p.Chain(c.Head, c.Size)
		if e != api.OK {
			return nil, e
		}
		for _, no := range chain {
			if slices.Contains(pages, no) {
				return nil, api.Malformed
			}
			pages = append(pages, no)
		}
	}
	return pages, api.OK
}

// TestAnyPages: of whatever pages the calls end, tell the codes that the chapter names, and nothing beside them.
func TestAnyPages(t *testing.T) { // P10.1, P10.2
	random := rand.New(rand.NewSource(1010))
	seen := map[api.Code]int{}
	for range 600 {
		pages := 1 + random.Intn(8)
		d := anyDisk(t, random, pages)
		for root := range pages + 3 {
			p := pager.New(d, makePool(t, 200, pages+2), 9, 0)
			var want []int
			code, leaves := api.OK, 0
			if root != 0 {
				want, code = plainPages(p, root, 1, &leaves, nil)
				slices.Sort(want)
			}
			got, e := tree.Pages(p, root)
			if e != code || !slices.Equal(got, want) {
				t.Fatalf("P10.2: Pages(%d): %v and code %d, not %v and code %d", root, got, e, want, code)
			}
			if ok, e := tree.Tight(p, root); e != api.OK && ok || code == api.OK && e != api.OK {
				t.Fatalf("P10.2: Tight(%d): %v and code %d, and Pages tells code %d", root, ok, e, code)
			}
			seen[code]++
			anyCalls(t, random, d, root, pages, seen)
			if e := tree.Drop(p, root); e != code || len(p.Pool().List()) != len(want) {
				t.Fatalf("P10.2: Drop(%d): code %d and freed %v, not code %d and %v", root, e, p.Pool().List(), code, want)
			}
		}
	}
	for _, code := range []api.Code{api.OK, api.Sum, api.Malformed, api.NotFound} {
		if seen[code] < 100 {
			t.Errorf("code %d was told %d times", code, seen[code])
		}
	}
}

// anyCalls: Get, Put and Delete of any pages.
func anyCalls(t *testing.T, random *rand.Rand, d *disk.Disk, root, pages int, seen map[api.Code]int) {
	t.Helper()
	for range 4 {
		p := pager.New(d, makePool(t, 200, pages+2), 9, 0)
		key, val := anyKey(random, 120), anyValue(random)
		was, e := tree.Get(p, root, []byte(key))
		seen[e]++
		if e != api.OK && e != api.NotFound && e != api.Sum && e != api.Malformed || e != api.OK && len(was) != 0 {
			t.Fatalf("P10.1: Get(%d, %q): %d bytes and code %d", root, key, len(was), e)
		}
		next, there, f := tree.Put(p, root, []byte(key), []byte(val))
		switch {
		case f == api.OK:
			if there != (e == api.OK) {
				t.Fatalf("P10.1: Put(%d, %q): %v, and Get tells code %d", root, key, there, e)
			}
			mustGet(t, p, next, key, val)
		case f != api.Sum && f != api.Malformed || next != 0 || there:
			t.Fatalf("P10.1: Put(%d, %q): %d, %v and code %d", root, key, next, there, f)
		}
		p = pager.New(d, makePool(t, 200, pages+2), 9, 0)
		next, f = tree.Delete(p, root, []byte(key))
		switch {
		case f == api.OK && e == api.OK:
			mustNotGet(t, p, next, key, api.NotFound)
		case f == api.OK || f != e && f != api.Sum && f != api.Malformed || next != 0:
			t.Fatalf("P10.1: Delete(%d, %q): %d and code %d, and Get tells code %d", root, key, next, f, e)
		}
	}
}
