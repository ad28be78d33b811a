package tree_test

import (
	"math"
	"slices"
	"testing"

	"cambium/api"
	"cambium/disk"
	"cambium/node"
	"cambium/page"
	"cambium/pager"
	"cambium/tree"
)

// wayOf: the pages that are gone over from a root to a key's leaf, and those of the chain of its value.
func wayOf(t *testing.T, p *pager.Pager, root int, key string) (way, chain []int) {
	t.Helper()
	for no := root; ; {
		way = append(way, no)
		n, e := p.Node(no)
		if e != api.OK {
			t.Fatalf("page %d: code %d", no, e)
		}
		l, ok := n.(*node.Leaf)
		if ok {
			for _, c := range l.Cells {
				if string(c.Key) == key && c.Size > 0 {
					_, chain, _ = p.Chain(c.Head, c.Size)
				}
			}
			return way, chain
		}
		b := n.(*node.Branch)
		at := 0
		for at < len(b.Keys) && string(b.Keys[at]) <= key {
			at++
		}
		no = b.Kids[at]
	}
}

// faultyTree: a tree of three levels with some great values, flushed.
func faultyTree(t *testing.T) (*disk.Disk, *pager.Pager, int, items) {
	t.Helper()
	d, p, root, all := written(t, 100, shape{row(8, 800), row(3, 800), row(9, 800)})
	for at, n := range map[int]int{0: 201, 2: 1011, 7: 4000} {
		key := prefixOf(at%3, at, 100) + "01"
		_, was := all[key]
		root = mustPut(t, p, root, key, long(n), was)
		all[key] = long(n)
	}
	p = flushed(t, d, p, 3)
	if x := mustBeTight(t, p, root, all); x.levels != 3 || x.chains != 7 {
		t.Fatalf("the test's own tree has %d levels and %d pages of chains", x.levels, x.chains)
	}
	return d, p, root, all
}

// TestFaultyPages: each page of a tree, and of its chains, is torn, or says what none of them may; whatever comes by it tells the code, and nothing else does.
func TestFaultyPages(t *testing.T) { // P10.1, P10.2
	d, l, root, all := faultyTree(t)
	x := plainTree(t, l, root)
	for _, no := range x.pages {
		good := diskPage(t, d, no)
		junk, _ := page.Frame(no, []byte{255, 255, 255, 255, 255, 255, 255})
		for code, bad := range map[api.Code][]byte{api.Sum: page.Torn(good), api.Malformed: junk} {
			isChain := false
			for key, val := range all {
				way, chain := wayOf(t, pager.New(d, l.Pool(), 3, 0), root, key)
				d.Write(no, bad)
				isChain = isChain || slices.Contains(chain, no)
				mustTellOnTheWay(t, d, l, root, key, val, code, slices.Contains(way, no), slices.Contains(chain, no))
				d.Write(no, good)
			}
			d.Write(no, bad)
			tight := code
			if isChain {
				tight = api.OK
			}
			p := pager.New(d, l.Pool(), 3, 0)
			mustNotWalk(t, p, root, code, tight)
			d.Write(no, good)
		}
	}
	mustBeTight(t, pager.New(d, l.Pool(), 3, 0), root, all)
}

// mustTellOnTheWay: calls for a key tell the code of a page that is on its way, or of its value's chain.
func mustTellOnTheWay(t *testing.T, d *disk.Disk, l *pager.Pager, root int, key, val string, code api.Code, onWay, inChain bool) {
	t.Helper()
	p := pager.New(d, l.Pool(), 3, 0)
	if !onWay && !inChain {
		mustGet(t, p, root, key, val)
		next := mustPut(t, p, root, key, val, true)
		mustGet(t, p, next, key, val)
		// Those beside one another may be joined, for which they are read.
		if next, e := tree.Delete(pager.New(d, l.Pool(), 3, 0), root, []byte(key)); e != api.OK && (e != code || next != 0) {
			t.Fatalf("P10.1: Delete: %d and code %d", next, e)
		}
		return
	}
	mustNotGet(t, p, root, key, code)
	mustNotPut(t, p, root, key, "another one", code)
	mustNotDelete(t, pager.New(d, l.Pool(), 3, 0), root, key, code)
	if onWay {
		beside := key[:99] + "\xff"
		mustNotPut(t, pager.New(d, l.Pool(), 3, 0), root, beside, "one more", code)
		mustNotDelete(t, pager.New(d, l.Pool(), 3, 0), root, beside, code)
		mustNotGet(t, p, root, beside, code)
	}
}

// TestFaultyNeighbours: a node that is read since it may be joined with another one tells its code.
func TestFaultyNeighbours(t *testing.T) { // P10.1
	for _, c := range []struct {
		what   string
		s      shape
		branch int // whose first item of the third leaf is deleted
		faulty []int
	}{ // which of the root's kids, and of its kids, is faulty
		{"a leaf to the left", shape{row(5, 609)}, 0, []int{1}},
		{"a leaf to the right", shape{{609, 609, 800, 609}}, 0, []int{3}},
		{"a branch to the left", shape{row(6, 609), row(5, 609)}, 1, []int{0}},
		{"a branch to the right", shape{row(5, 609), row(6, 609)}, 0, []int{1}},
		{"the last leaf of a branch to the left", shape{row(6, 609), row(5, 609)}, 1, []int{0, 5}},
		{"the first leaf of a branch to the right", shape{row(5, 609), row(6, 609)}, 0, []int{1, 0}},
		{"the first leaf of a branch to the left, which isn't read", shape{row(6, 609), row(5, 609)}, 1, []int{0, 0}},
	} {
		d, p, root, all := written(t, 100, c.s)
		no := root
		for _, at := range c.faulty {
			n, _ := p.Node(no)
			no = n.(*node.Branch).Kids[at]
		}
		key := prefixOf(c.branch, 2, 100) + "00"
		good := diskPage(t, d, no)
		for _, code := range []api.Code{api.Sum, api.Malformed} {
			if code == api.Sum {
				d.Write(no, page.Torn(good))
			} else {
				writeSays(t, d, no, []byte{9})
			}
			if c.faulty[len(c.faulty)-1] == 0 && len(c.faulty) == 2 && c.branch == 1 {
				mustDelete(t, pager.New(d, p.Pool(), 3, 0), root, key)
			} else {
				mustNotDelete(t, pager.New(d, p.Pool(), 3, 0), root, key, code)
			}
		}
		d.Write(no, good)
		mustBeTight(t, p, mustDelete(t, p, root, key), less(all, key))
	}
}

// TestAFaultyKidThatIsToBeTheRoot: the last kid of a root is read, since it may have one kid alone, too.
func TestAFaultyKidThatIsToBeTheRoot(t *testing.T) { // P10.1
	d, p, root, all := written(t, 100, shape{{150}, row(10, 609)})
	n, _ := p.Node(root)
	no := n.(*node.Branch).Kids[1]
	good := diskPage(t, d, no)
	key := prefixOf(0, 0, 100) + "00"
	d.Write(no, page.Torn(good))
	mustNotDelete(t, pager.New(d, p.Pool(), 3, 0), root, key, api.Sum)
	writeSays(t, d, no, []byte{9})
	mustNotDelete(t, pager.New(d, p.Pool(), 3, 0), root, key, api.Malformed)
	d.Write(no, good)
	mustBeTight(t, p, mustDelete(t, p, root, key), less(all, key))
}

// TestRootsThatThereAreNot: a root that there isn't, that was never written, or that isn't a node's.
func TestRootsThatThereAreNot(t *testing.T) { // P10.1, P10.2
	d := disk.New(30)
	p := pager.New(d, makePool(t, 30, 2), 1, 0)
	head, _ := p.PutChain([]byte(long(300)))
	other, _ := p.Put([]byte("no node"))
	writeSays(t, d, 20, []byte{1, 0})
	writeSays(t, d, 21, []byte{3, 0, 0})
	writeSays(t, d, 22, []byte{1, 0, 1})
	writeSays(t, d, 23, []byte{2, 0, 0, 0, 0, 0, 1})
	codes := map[int]api.Code{head: api.Malformed, other: api.Malformed, 21: api.Malformed, 22: api.Malformed, 23: api.Malformed}
	for _, no := range []int{math.MinInt, -1 << 32, -1<<32 + 20, -2, -1, 1, 19, 29, 30, 31, 2047, 2048, 1<<31 - 1, 1 << 31, 1<<32 + 20, math.MaxInt} {
		codes[no] = api.Sum
	}
	for no, code := range codes {
		for _, key := range []string{"k", "\x00", long(100)} {
			mustNotGet(t, p, no, key, code)
			mustNotPut(t, p, no, key, long(5), code)
			mustNotPut(t, p, no, key, long(300), code)
			mustNotDelete(t, p, no, key, code)
		}
		mustNotWalk(t, p, no, code, code)
	}
	mustGet(t, p, mustPut(t, p, 20, "k", "v", false), "k", "v")
}

// TestReachedTwice: a page is reached by two ways.
func TestReachedTwice(t *testing.T) { // P10.2
	p := makePager(t, 200)
	leaf := putLeaf(t, p, items{"b": "x"})
	other := putLeaf(t, p, items{"n": "x"})
	val := long(1500)
	head, _ := p.PutChain([]byte(val))
	chained := func(key string, size, head int) node.Cell {
		return node.Cell{Key: []byte(key), Size: size, Head: head}
	}
	last, _ := p.Put(node.Link(0, []byte(long(400))))
	first, _ := p.Put(node.Link(last, []byte(long(300))))
	second, _ := p.Put(node.Link(last, []byte(long(300))))
	twin := putNode(t, p, &node.Leaf{Cells: []node.Cell{chained("a", 1500, head)}})
	nextTwin := putNode(t, p, &node.Leaf{Cells: []node.Cell{chained("n", 1500, head)}})
	for _, c := range []struct {
		what  string
		root  int
		tight api.Code
	}{
		{"a leaf", putBranch(t, p, []int{leaf, leaf}, "m"), api.Malformed},
		{"a leaf, not side by side", putBranch(t, p, []int{leaf, other, leaf}, "m", "x"), api.Malformed},
		{"a leaf below two branches", putBranch(t, p, []int{putBranch(t, p, []int{leaf}), putBranch(t, p, []int{leaf})}, "m"), api.Malformed},
		{"a chain within a leaf", putNode(t, p, &node.Leaf{Cells: []node.Cell{chained("a", 1500, head), chained("b", 1500, head)}}), api.OK},
		{"a chain within two leaves", putBranch(t, p, []int{twin, nextTwin}, "m"), api.OK},
		{"a chain's end", putNode(t, p, &node.Leaf{Cells: []node.Cell{chained("a", 700, first), chained("b", 700, second)}}), api.OK},
		{"a chain's end, which is a chain", putNode(t, p, &node.Leaf{Cells: []node.Cell{chained("a", 700, first), chained("b", 400, last)}}), api.OK},
	} {
		if e := c.tight; e == api.OK {
			// Tight asks for nodes alone; none of these says which it is.
			if _, f := tree.Tight(p, c.root); f != api.OK {
				t.Errorf("P10.2: %s: Tight: code %d", c.what, f)
			}
			mustNotWalkChains(t, p, c.root)
			continue
		}
		mustNotWalk(t, p, c.root, api.Malformed, c.tight)
	}
}

// mustNotWalkChains: Pages and Drop tell Malformed, and change nothing.
func mustNotWalkChains(t *testing.T, p *pager.Pager, root int) {
	t.Helper()
	fresh, freed := p.Fresh(), p.Pool().List()
	if l, e := tree.Pages(p, root); e != api.Malformed || len(l) != 0 {
		t.Errorf("P10.2: Pages(%d): %v and code %d, not Malformed", root, l, e)
	}
	if e := tree.Drop(p, root); e != api.Malformed {
		t.Errorf("P10.2: Drop(%d): code %d, not Malformed", root, e)
	}
	if !slices.Equal(p.Fresh(), fresh) || !slices.Equal(p.Pool().List(), freed) {
		t.Errorf("P10.2: a Drop that answers Malformed changed which pages are used")
	}
}

// TestWaysThatDoNotEnd: a branch is below itself.
func TestWaysThatDoNotEnd(t *testing.T) { // P10.1, P10.2
	for _, kids := range [][]int{{2}, {3}, {4}, {2, 2}, {3, 4}, {5, 3}, {5, 2}} {
		d := disk.New(20)
		b := &node.Branch{Kids: kids}
		if len(kids) == 2 {
			b.Keys = [][]byte{[]byte("b")}
		}
		writeSays(t, d, 2, b.Pay())
		writeSays(t, d, 3, (&node.Branch{Kids: []int{4}}).Pay())
		writeSays(t, d, 4, (&node.Branch{Kids: []int{2}}).Pay())
		writeSays(t, d, 5, (&node.Leaf{Cells: []node.Cell{{Key: []byte("a")}}}).Pay())
		p := pager.New(d, makePool(t, 20, 6), 1, 0)
		mustNotWalk(t, p, 2, api.Malformed, api.Malformed)
		mustNotGet(t, p, 2, "c", api.Malformed)
		mustNotPut(t, p, 2, "c", "v", api.Malformed)
		mustNotPut(t, p, 2, "c", long(300), api.Malformed)
		mustNotDelete(t, p, 2, "c", api.Malformed)
		if kids[0] == 5 {
			mustGet(t, p, 2, "a", "")
			mustNotGet(t, p, 2, "aa", api.NotFound)
			mustNotDelete(t, p, 2, "aa", api.NotFound)
			// With nothing of its own left, the leaf's branch would have one kid alone, which is that branch.
			mustNotDelete(t, p, 2, "a", api.Malformed)
		}
	}
}

// TestLeavesThatStandElsewhere: leaves aren't as far from the root.
func TestLeavesThatStandElsewhere(t *testing.T) { // P10.1, P10.2
	p := makePager(t, 100)
	leaf := func(key string) int { return putLeaf(t, p, items{key: "x"}) }
	over := func(no int) int { return putBranch(t, p, []int{no}) }
	for _, c := range []struct {
		what string
		root int
		key  string // with whose leaf gone the others would be seen to stand elsewhere
	}{
		{"the first is too near", putBranch(t, p, []int{leaf("a"), over(leaf("n"))}, "m"), "a"},
		{"the last is too near", putBranch(t, p, []int{over(leaf("a")), leaf("n")}, "m"), "n"},
		{"the first is too far", putBranch(t, p, []int{over(leaf("a")), leaf("n")}, "m"), "a"},
		{"the last is too far", putBranch(t, p, []int{leaf("a"), over(leaf("n"))}, "m"), "n"},
		{"one between is too near", putBranch(t, p, []int{over(leaf("a")), leaf("f"), over(leaf("n"))}, "e", "m"), "f"},
		{"one between is too far", putBranch(t, p, []int{leaf("a"), over(leaf("f")), leaf("n")}, "e", "m"), "f"},
		{"below the first branch", putBranch(t, p, []int{putBranch(t, p, []int{leaf("a"), over(leaf("b"))}, "b"), over(over(leaf("n")))}, "m"), "a"},
		{"below the last branch", putBranch(t, p, []int{over(leaf("a")), over(over(leaf("n")))}, "m"), "n"},
	} {
		mustNotWalk(t, p, c.root, api.Malformed, api.Malformed)
		mustGet(t, p, c.root, c.key, "x")
		mustNotDelete(t, p, c.root, c.key, api.Malformed)
	}
}

// TestKeysThatStandElsewhere: what is below a branch's kids isn't between its keys, so that a node would be made whose keys don't rise.
func TestKeysThatStandElsewhere(t *testing.T) { // P10.1
	p := makePager(t, 100)
	root := putBranch(t, p, []int{putLeaf(t, p, items{"a": "x", "z": "x"}), putLeaf(t, p, items{"n": "x", "o": "x"})}, "m")
	mustNotDelete(t, p, root, "a", api.Malformed)
	full := items{}
	for _, key := range []string{"q", "r", "s", "t", "u"} {
		full[key] = long(190)
	}
	root = putBranch(t, p, []int{putLeaf(t, p, full), putLeaf(t, p, full), putLeaf(t, p, full)}, "g", "m")
	mustNotPut(t, p, root, "a", long(190), api.Malformed)
}
