package scan_test

import (
	"fmt"
	"math"
	"slices"
	"testing"

	"cambium/api"
	"cambium/disk"
	"cambium/node"
	"cambium/page"
	"cambium/pager"
	"cambium/scan"
)

// spread is where a tree's pages are needed: from which item on, below which one, by their places in order.
type spread struct {
	low, high int
	chain     bool // whether it is a page of that item's chain
}

// spreadOf: where each page of a tree of these items is needed.
func spreadOf(t *testing.T, p *pager.Pager, root int) map[int]spread {
	t.Helper()
	out := map[int]spread{}
	at := 0
	var below func(no int)
	below = func(no int) {
		n, e := p.Node(no)
		if e != api.OK {
			t.Fatalf("page %d: code %d", no, e)
		}
		low := at
		switch x := n.(type) {
		case *node.Branch:
			for _, kid := range x.Kids {
				below(kid)
			}
		case *node.Leaf:
			for _, c := range x.Cells {
				if c.Size > 0 {
					_, pages, _ := p.Chain(c.Head, c.Size)
					for _, no := range pages {
						out[no] = spread{at, at + 1, true}
					}
				}
				at++
			}
		}
		out[no] = spread{low, at, false}
	}
	below(root)
	return out
}

// faultyTree: a tree of three levels with some great values, none of whose pages is fresh.
func faultyTree(t *testing.T) (*disk.Disk, *pager.Pager, int, []item) {
	t.Helper()
	all := row(50, 100, 200)
	for i, n := range map[int]int{0: 201, 9: 1011, 10: 4000, 30: 300, 49: 2500} {
		all[i].val = long(n)
	}
	d, p := makePager(t, 300)
	root := treeOf(t, p, all)
	if n := levels(t, p, root); n != 3 {
		t.Fatalf("the test's own tree has %d levels", n)
	}
	return d, flushed(t, d, p), root, all
}

// TestFaultyPages: each page of a tree is torn, or says what none may; scans that come by it tell the items ahead, then the code, again and again, and other scans nothing of it.
func TestFaultyPages(t *testing.T) { // P11.1, P11.2
	d, p, root, all := faultyTree(t)
	for no, x := range spreadOf(t, p, root) {
		good := diskPage(t, d, no)
		for code, bad := range map[api.Code][]byte{api.Sum: page.Torn(good), api.Malformed: junkPage(t, no)} {
			writePage(t, d, no, bad)
			for i := range all {
				mustStopAt(t, p, root, all, i, x, code)
			}
			writePage(t, d, no, good)
		}
	}
	mustScan(t, p, root, "", all)
}

// mustStopAt: a scan from an item tells what it must, where one page of the tree is faulty.
func mustStopAt(t *testing.T, p *pager.Pager, root int, all []item, i int, x spread, code api.Code) {
	t.Helper()
	key := all[i].key
	switch {
	case i >= x.high:
		mustScan(t, p, root, key, all[i:])
		mustItems(t, p, root, key, "", math.MaxInt, all[i:])
	case i >= x.low && !x.chain:
		mustNotFrom(t, p, root, key, code)
	default:
		s := mustFrom(t, p, root, key)
		mustNext(t, s, all[i:x.low]...)
		mustNotNext(t, s, code)
		ahead := x.low - i
		mustItems(t, p, root, key, "", ahead, all[i:x.low])
		mustNotItems(t, p, root, key, "", ahead+1, code)
		mustNotItems(t, p, root, key, "", math.MaxInt, code)
		if x.chain {
			// The value of an item that isn't asked for isn't read.
			mustItems(t, p, root, key, all[x.low].key, math.MaxInt, all[i:x.low])
			mustNotItems(t, p, root, key, all[x.low].key+"\x00", math.MaxInt, code)
		}
		if ahead > 1 {
			mustItems(t, p, root, key, all[x.low-1].key, math.MaxInt, all[i:x.low-1])
		}
	}
}

// TestScansStayWhereACodeIsTold: when the page is what it was again, the item comes that would have come.
func TestScansStayWhereACodeIsTold(t *testing.T) { // P11.1
	d, p, root, all := faultyTree(t)
	for no, x := range spreadOf(t, p, root) {
		if x.low == 0 && !x.chain {
			continue
		}
		good := diskPage(t, d, no)
		s := mustFrom(t, p, root, "")
		mustNext(t, s, all[:x.low]...)
		tornPage(t, d, no)
		mustNotNext(t, s, api.Sum)
		writePage(t, d, no, junkPage(t, no))
		mustNotNext(t, s, api.Malformed)
		writePage(t, d, no, good)
		mustNext(t, s, all[x.low:]...)
		mustNotNext(t, s, api.OK)
	}
}

// TestRoots: roots of which there is no tree.
func TestRoots(t *testing.T) { // P11.1, P11.2
	d, p := makePager(t, 60)
	chain, _ := p.PutChain([]byte(long(3000)))
	says, _ := p.Put([]byte{3, 0, 0})
	nothing, _ := p.Put(nil)
	torn := putLeaf(t, p, "a")
	mustScan(t, p, torn, "", itemsOf("a"))
	for _, no := range []int{chain, says, nothing} {
		mustNotFrom(t, p, no, "", api.Malformed)
	}
	p = flushed(t, d, p)
	tornPage(t, d, torn)
	for _, key := range []string{"", "a", "b", long(101)} {
		mustScan(t, p, 0, key, nil)
		mustItems(t, p, 0, key, "", 5, nil)
		mustItems(t, p, 0, key, "c", math.MaxInt, nil)
		for _, no := range []int{-1, 1, 40, 60, 61, math.MaxInt, math.MinInt, math.MaxInt32, torn} {
			mustNotFrom(t, p, no, key, api.Sum)
		}
		for _, no := range []int{chain, says, nothing} {
			mustNotFrom(t, p, no, key, api.Malformed)
		}
	}
}

// TestKidsThatThereAreNot: a branch tells of pages that there aren't.
func TestKidsThatThereAreNot(t *testing.T) { // P11.1
	_, p := makePager(t, 60)
	root := putBranch(t, p, []int{putLeaf(t, p, "a", "b"), 59, math.MaxInt32}, "g", "m")
	s := mustFrom(t, p, root, "b")
	mustNext(t, s, itemsOf("b")...)
	mustNotNext(t, s, api.Sum)
	mustNotFrom(t, p, root, "g", api.Sum)
	mustNotFrom(t, p, root, "x", api.Sum)
	// No item is told of: whether there is one below the next page, that alone tells.
	mustNotNext(t, mustFrom(t, p, root, "c"), api.Sum)
	mustItems(t, p, root, "a", "b", 9, itemsOf("a"))
	mustItems(t, p, root, "a", "", 2, itemsOf("a", "b"))
	mustNotItems(t, p, root, "a", "", 3, api.Sum)
}

// TestPagesReachedTwice: no item is told twice: where a page is reached again, that is Malformed.
func TestPagesReachedTwice(t *testing.T) { // P11.1, P11.4
	_, p := makePager(t, 60)
	a, g, none := putLeaf(t, p, "a", "b"), putLeaf(t, p, "g", "h"), putLeaf(t, p)
	for _, c := range []struct {
		what string
		root int
		want []string
		from int // from which item on nothing is reached twice; below 0: wherever a scan begins
	}{
		{"a leaf, side by side", putBranch(t, p, []int{a, a}, "g"), []string{"a", "b"}, -1},
		{"a leaf with another one between", putBranch(t, p, []int{a, g, a}, "c", "k"), []string{"a", "b", "g", "h"}, 2},
		{"a leaf of two branches", putBranch(t, p, []int{putBranch(t, p, []int{a, g}, "g"), putBranch(t, p, []int{g})}, "k"), []string{"a", "b", "g", "h"}, -1},
		{"a branch of a branch", putBranch(t, p, []int{putBranch(t, p, []int{a}), putBranch(t, p, []int{a})}, "g"), []string{"a", "b"}, -1},
		{"an empty leaf", putBranch(t, p, []int{a, none, none}, "g", "k"), []string{"a", "b"}, -1},
		{"an empty leaf ahead of one that isn't", putBranch(t, p, []int{a, none, none, g}, "c", "d", "e"), []string{"a", "b"}, -1},
	} {
		t.Run(c.what, func(t *testing.T) {
			s := mustFrom(t, p, c.root, "")
			mustNext(t, s, itemsOf(c.want...)...)
			mustNotNext(t, s, api.Malformed)
			mustItems(t, p, c.root, "", "", len(c.want), itemsOf(c.want...))
			mustNotItems(t, p, c.root, "", "", len(c.want)+1, api.Malformed)
			for i, key := range c.want {
				s := mustFrom(t, p, c.root, key)
				if c.from >= 0 && i >= c.from {
					mustNext(t, s, itemsOf(c.want[i:]...)...)
				}
			}
		})
	}
	same := putBranch(t, p, []int{a, a}, "b")
	mustScan(t, p, same, "b", itemsOf("b"))
	mustItems(t, p, same, "a", "b", 9, itemsOf("a"))
}

// TestWaysThatLeadIntoThemselves: no scan goes on for ever.
func TestWaysThatLeadIntoThemselves(t *testing.T) { // P11.1
	_, p := makePager(t, 60)
	a := putLeaf(t, p, "a", "b")
	self := putLeaf(t, p)
	setNode(t, p, self, branchOf([]int{self}))
	mustNotFrom(t, p, self, "", api.Malformed)
	mustNotFrom(t, p, self, "a", api.Malformed)

	setNode(t, p, self, branchOf([]int{a, self}, "g"))
	mustNotFrom(t, p, self, "g", api.Malformed)
	s := mustFrom(t, p, self, "")
	mustNext(t, s, itemsOf("a", "b")...)
	mustNotNext(t, s, api.Malformed)

	setNode(t, p, self, branchOf([]int{self, a}, "a"))
	mustNotFrom(t, p, self, "", api.Malformed)
	mustScan(t, p, self, "a", itemsOf("a", "b"))

	lower := putBranch(t, p, []int{self})
	setNode(t, p, self, branchOf([]int{a, lower}, "g"))
	mustNotFrom(t, p, self, "g", api.Malformed)
	mustNotFrom(t, p, lower, "g", api.Malformed)
	s = mustFrom(t, p, lower, "b")
	mustNext(t, s, itemsOf("b")...)
	mustNotNext(t, s, api.Malformed)

	// Both kids of each branch are the one below it, so that there are more ways than could ever be gone.
	root := a
	for range 50 {
		root = putBranch(t, p, []int{root, root}, "b")
	}
	s = mustFrom(t, p, root, "")
	mustNext(t, s, itemsOf("a", "b")...)
	mustNotNext(t, s, api.Malformed)
	mustScan(t, p, root, "b", itemsOf("b"))
}

// TestKeysThatDoNotRise: a scan's keys rise, also where the leaves' don't: that is Malformed.
func TestKeysThatDoNotRise(t *testing.T) { // P11.1, P11.4
	for _, c := range []struct {
		first, second []string
		key           string
		want          []string
		code          api.Code
	}{
		{[]string{"a", "c"}, []string{"b"}, "", []string{"a", "c"}, api.Malformed},
		{[]string{"a", "c"}, []string{"c", "d"}, "", []string{"a", "c"}, api.Malformed},
		{[]string{"a", "c"}, []string{"c", "d"}, "c", []string{"c"}, api.Malformed},
		{[]string{"a", "c"}, []string{"c\x00"}, "", []string{"a", "c", "c\x00"}, api.OK},
		{[]string{"a", "c"}, []string{"b", "x"}, "d", nil, api.Malformed},
		{[]string{"a", "c"}, []string{"d", "x"}, "d", []string{"d", "x"}, api.OK},
		{[]string{"a", "c"}, []string{"d", "x"}, "d\x00", nil, api.Malformed},
		{nil, []string{"d", "x"}, "d\x00", nil, api.Malformed},
		{nil, []string{"d", "x"}, "d", []string{"d", "x"}, api.OK},
		{nil, []string{"d", "x"}, "", []string{"d", "x"}, api.OK},
	} {
		_, p := makePager(t, 20)
		root := putBranch(t, p, []int{putLeaf(t, p, c.first...), putLeaf(t, p, c.second...)}, "m")
		s := mustFrom(t, p, root, c.key)
		mustNext(t, s, itemsOf(c.want...)...)
		mustNotNext(t, s, c.code)
		mustItems(t, p, root, c.key, "", len(c.want), itemsOf(c.want...))
		if c.code != api.OK {
			mustNotItems(t, p, root, c.key, "", len(c.want)+1, c.code)
		} else {
			mustItems(t, p, root, c.key, "", len(c.want)+1, itemsOf(c.want...))
		}
	}
}

// TestLooseTrees: leaves without cells, branches of one kid, and leaves that aren't as far from the root: the items are told.
func TestLooseTrees(t *testing.T) { // P11.1, P11.2
	_, p := makePager(t, 60)
	leaf := func(keys ...string) int { return putLeaf(t, p, keys...) }
	alone := func(kid int) int { return putBranch(t, p, []int{kid}) }
	for _, c := range []struct {
		what string
		root int
		want []string
	}{
		{"an empty leaf", leaf(), nil},
		{"a branch of an empty leaf", alone(leaf()), nil},
		{"empty leaves", putBranch(t, p, []int{leaf(), leaf(), leaf()}, "b", "c"), nil},
		{"an empty leaf ahead", putBranch(t, p, []int{leaf(), leaf("b", "c")}, "b"), []string{"b", "c"}},
		{"an empty leaf behind", putBranch(t, p, []int{leaf("a"), leaf()}, "b"), []string{"a"}},
		{"empty leaves between", putBranch(t, p, []int{leaf("a"), leaf(), leaf(), leaf("d", "e"), leaf()}, "b", "c", "d", "f"), []string{"a", "d", "e"}},
		{"a way of single kids", alone(alone(alone(leaf("a", "b")))), []string{"a", "b"}},
		{"single kids side by side", putBranch(t, p, []int{alone(leaf("a")), alone(leaf("b", "c"))}, "b"), []string{"a", "b", "c"}},
		{"leaves that aren't as far from the root", putBranch(t, p, []int{leaf("a"), alone(alone(leaf("b", "c"))), leaf("d")}, "b", "d"), []string{"a", "b", "c", "d"}},
	} {
		t.Run(c.what, func(t *testing.T) {
			all := itemsOf(c.want...)
			for _, key := range places(append(itemsOf("a", "b", "c", "d", "e", "f"), all...)) {
				mustScan(t, p, c.root, key, from(all, key))
				mustItems(t, p, c.root, key, "", 9, from(all, key))
				mustItems(t, p, c.root, "", key, 9, below(all, key))
			}
		})
	}
}

// TestFaultyChains: an item's chain isn't what its cell says.
func TestFaultyChains(t *testing.T) { // P11.1, P11.2
	_, p := makePager(t, 60)
	leaf := putLeaf(t, p, "x")
	other, _ := p.PutChain([]byte(long(900)))
	self, _ := p.Put(nil)
	p.Set(self, node.Link(self, []byte(long(300))))
	whole, _ := p.PutChain([]byte(long(2500)))
	for i, c := range []struct {
		what string
		head int
		size int
		code api.Code
	}{
		{"as many bytes as it says", whole, 2500, api.OK},
		{"fewer bytes", whole, 2501, api.Malformed},
		{"fewer pages", whole, 16384, api.Malformed},
		{"more bytes", whole, 2499, api.Malformed},
		{"more pages", whole, 1010, api.Malformed},
		{"a chain of one page, as it says", other, 900, api.OK},
		{"a chain of one page, fewer bytes", other, 901, api.Malformed},
		{"a chain of one page, more bytes", other, 899, api.Malformed},
		{"a chain that leads into itself", self, 16384, api.Malformed},
		{"a page that isn't a chain's", leaf, 300, api.Malformed},
		{"a page that there isn't", 59, 300, api.Sum},
		{"a page beyond the disk", math.MaxInt32, 300, api.Sum},
	} {
		t.Run(c.what, func(t *testing.T) {
			l := leafOf("a", "b", "c")
			l.Cells[1] = node.Cell{Key: []byte("b"), Size: c.size, Head: c.head}
			no := putNode(t, p, l)
			if c.code == api.OK {
				want := []item{{"a", "a"}, {"b", long(c.size)}, {"c", "c"}}
				mustScan(t, p, no, "", want)
				mustItems(t, p, no, "", "", 9, want)
				return
			}
			for _, key := range []string{"", "a", "b"} {
				s := mustFrom(t, p, no, key)
				if key != "b" {
					mustNext(t, s, itemsOf("a")...)
				}
				mustNotNext(t, s, c.code)
				mustNotItems(t, p, no, key, "", 9, c.code)
				mustNotItems(t, p, no, key, "c", 9, c.code)
			}
			mustScan(t, p, no, "b\x00", itemsOf("c"))
			mustItems(t, p, no, "a", "b", 9, itemsOf("a"))
			mustItems(t, p, no, "", "", 1, itemsOf("a"))
			mustItems(t, p, no, fmt.Sprint("b", i), "", 9, itemsOf("c"))
		})
	}
}

// TestChainsReadTwice: two items whose values stand in one chain are two items.
func TestChainsReadTwice(t *testing.T) { // P11.4
	_, p := makePager(t, 60)
	head, _ := p.PutChain([]byte(long(1500)))
	l := &node.Leaf{Cells: []node.Cell{{Key: []byte("a"), Size: 1500, Head: head}, {Key: []byte("b"), Size: 1500, Head: head}}}
	mustScan(t, p, putNode(t, p, l), "", []item{{"a", long(1500)}, {"b", long(1500)}})
}

// TestNothingIsChangedByScanning: no page is used, freed or written, whatever is told.
func TestNothingIsChangedByScanning(t *testing.T) { // P11.1, P11.2
	d, p, root, all := faultyTree(t)
	fresh := putBranch(t, p, []int{root, root}, "x")
	pages, freed, high, was := p.Fresh(), p.Pool().List(), p.Pool().High(), diskPage(t, d, root)
	mustScan(t, p, root, "", all)
	mustItems(t, p, root, "", "", 1000, all)
	mustNotItems(t, p, fresh, "", "", 1000, api.Malformed)
	mustNotFrom(t, p, 299, "", api.Sum)
	if !slices.Equal(p.Fresh(), pages) || !slices.Equal(p.Pool().List(), freed) || p.Pool().High() != high {
		t.Errorf("rule 4: scans changed which pages are used")
	}
	if len(d.Waiting()) != 0 || !slices.Equal(diskPage(t, d, root), was) {
		t.Errorf("rule 4: scans wrote to the disk")
	}
	mustScan(t, p, root, "", all)
	if _, e := scan.From(p, fresh, nil); e != api.OK {
		t.Errorf("P11.1: From: code %d", e)
	}
}
