package tree_test

import (
	"bytes"
	"maps"
	"slices"
	"testing"

	"cambium/api"
	"cambium/disk"
	"cambium/node"
	"cambium/page"
	"cambium/pager"
	"cambium/pool"
	"cambium/tree"
)

// items is what a tree is to have: values by their keys.
type items map[string]string

// plain is a tree, gone over page by page by the chapter's words, apart from what package tree tells.
type plain struct {
	items  items
	pages  []int // rising
	chains int   // how many of them are chains'
	bytes  int   // what its items come to
	levels int   // how many nodes stand from the root to each leaf
	tight  bool
	leaves int
	widths [][]int // by level, from the root on, how many kids each branch has, or cells each leaf
}

// plainTree: a tree by the chapter's words; one that isn't as they say fails the test.
func plainTree(t *testing.T, p *pager.Pager, root int) plain {
	t.Helper()
	out := plain{items: items{}, tight: true}
	if root == 0 {
		return out
	}
	n := out.below(t, p, root, 1, "", "")
	if b, ok := n.(*node.Branch); ok && len(b.Kids) == 1 {
		out.tight = false
	}
	slices.Sort(out.pages)
	if len(slices.Compact(slices.Clone(out.pages))) != len(out.pages) {
		t.Fatalf("P10.2: a page of %v is reached twice", out.pages)
	}
	return out
}

// below: what is below a page, whose keys are at least from, and below to, if that isn't empty.
func (x *plain) below(t *testing.T, p *pager.Pager, no, level int, from, to string) node.Node {
	t.Helper()
	n, e := p.Node(no)
	if e != api.OK {
		t.Fatalf("page %d of a tree: code %d", no, e)
	}
	x.pages = append(x.pages, no)
	if len(x.widths) < level {
		x.widths = append(x.widths, nil)
	}
	if l, ok := n.(*node.Leaf); ok {
		x.leaf(t, p, l, level, from, to)
		x.widths[level-1] = append(x.widths[level-1], len(l.Cells))
		return n
	}
	b := n.(*node.Branch)
	x.widths[level-1] = append(x.widths[level-1], len(b.Kids))
	var kids []node.Node
	for i, kid := range b.Kids {
		low, high := from, to
		if i > 0 {
			low = string(b.Keys[i-1])
		}
		if i < len(b.Keys) {
			high = string(b.Keys[i])
		}
		if low < from || to != "" && high > to {
			t.Fatalf("the branch %d has a key that isn't between those above it", no)
		}
		kids = append(kids, x.below(t, p, kid, level+1, low, high))
	}
	for i, key := range b.Keys {
		if plainFit(kids[i], kids[i+1], len(key)) {
			x.tight = false
		}
	}
	return n
}

// plainFit: whether two nodes side by side fit into one, by the lengths of chapter 8.
func plainFit(left, right node.Node, key int) bool {
	if _, ok := left.(*node.Leaf); ok {
		return left.Len()-3+right.Len()-3 <= 1016-3
	}
	return left.Len()-7+5+key+right.Len()-7 <= 1016-7
}

func (x *plain) leaf(t *testing.T, p *pager.Pager, l *node.Leaf, level int, from, to string) {
	t.Helper()
	if x.levels != 0 && x.levels != level {
		t.Fatalf("P10.2: leaves stand on level %d and on level %d", x.levels, level)
	}
	x.levels = level
	x.leaves++
	if len(l.Cells) == 0 {
		x.tight = false
	}
	for _, c := range l.Cells {
		key := string(c.Key)
		if key < from || to != "" && key >= to {
			t.Fatalf("the key %q isn't between %q and %q", key, from, to)
		}
		val := c.Inline
		x.bytes += 8 + len(key)
		if c.Size > 0 {
			got, pages, e := p.Chain(c.Head, c.Size)
			if e != api.OK || len(got) <= 200 {
				t.Fatalf("the chain of %q: code %d and %d bytes", key, e, len(got))
			}
			x.pages = append(x.pages, pages...)
			x.chains += len(pages)
			x.bytes += 16
			val = got
		} else {
			x.bytes += len(val)
		}
		x.items[key] = string(val)
	}
}

// mustHave: a tree has these items, and what package tree tells of it is what the chapter's words say.
func mustHave(t *testing.T, p *pager.Pager, root int, want items) plain {
	t.Helper()
	x := plainTree(t, p, root)
	if !maps.Equal(x.items, want) {
		t.Fatalf("P10.1: the tree has %d items, not these %d, or other ones", len(x.items), len(want))
	}
	if (root == 0) != (len(want) == 0) {
		t.Fatalf("P10.1: the root of %d items is %d", len(want), root)
	}
	for key, val := range want {
		mustGet(t, p, root, key, val)
	}
	if pages, e := tree.Pages(p, root); e != api.OK || !slices.Equal(pages, x.pages) {
		t.Fatalf("P10.2: Pages: %v and code %d, not %v", pages, e, x.pages)
	}
	mustTight(t, p, root, x.tight)
	return x
}

// mustBeTight: a tree has these items, it is tight, and it has no more pages than it may.
func mustBeTight(t *testing.T, p *pager.Pager, root int, want items) plain {
	t.Helper()
	x := mustHave(t, p, root, want)
	if !x.tight {
		t.Fatalf("P10.3: the tree isn't tight: %v", x.widths)
	}
	if most := 16 + x.bytes/100 + x.chains; len(x.pages) > most {
		t.Fatalf("P10.3: the tree has %d pages, and may have %d", len(x.pages), most)
	}
	return x
}

// mustPart: these pages and the pool's freed ones are all that were ever used, each once.
func mustPart(t *testing.T, p *pager.Pager, pages []int) {
	t.Helper()
	all := slices.Clone(pages)
	for _, f := range p.Pool().List() {
		all = append(all, f.Page)
	}
	slices.Sort(all)
	for i, no := range all {
		if no != i+2 {
			t.Fatalf("P10.3: used and freed pages are %v, not each from 2 on", all)
		}
	}
	if len(all) != p.Pool().High()-2 {
		t.Fatalf("P10.3: %d pages are used or freed, and the high mark is %d", len(all), p.Pool().High())
	}
}

// mustBeWhole: a tree that is alone on its disk has these items, is tight, and has all pages that aren't freed.
func mustBeWhole(t *testing.T, p *pager.Pager, root int, want items) plain {
	t.Helper()
	x := mustBeTight(t, p, root, want)
	mustPart(t, p, x.pages)
	return x
}

// mustGet: Get tells this value.
func mustGet(t *testing.T, p *pager.Pager, root int, key, want string) {
	t.Helper()
	if val, e := tree.Get(p, root, []byte(key)); e != api.OK || string(val) != want {
		t.Fatalf("P10.1: Get(%d, %q): %d bytes and code %d, not these %d bytes", root, key, len(val), e, len(want))
	}
}

// mustNotGet: Get answers this code.
func mustNotGet(t *testing.T, p *pager.Pager, root int, key string, want api.Code) {
	t.Helper()
	if val, e := tree.Get(p, root, []byte(key)); e != want || len(val) != 0 {
		t.Fatalf("P10.1: Get(%d, %q): %d bytes and code %d, not code %d", root, key, len(val), e, want)
	}
}

// mustPut: Put answers a root.
func mustPut(t *testing.T, p *pager.Pager, root int, key, val string, want bool) int {
	t.Helper()
	next, was, e := tree.Put(p, root, []byte(key), []byte(val))
	if e != api.OK || was != want {
		t.Fatalf("P10.1: Put(%d, %q, %d bytes): %d, %v and code %d, not %v", root, key, len(val), next, was, e, want)
	}
	return next
}

// mustNotPut: Put answers this code.
func mustNotPut(t *testing.T, p *pager.Pager, root int, key, val string, want api.Code) {
	t.Helper()
	if next, was, e := tree.Put(p, root, []byte(key), []byte(val)); e != want || next != 0 || was {
		t.Fatalf("P10.1: Put(%d, %q, %d bytes): %d, %v and code %d, not code %d", root, key, len(val), next, was, e, want)
	}
}

// mustDelete: Delete answers a root.
func mustDelete(t *testing.T, p *pager.Pager, root int, key string) int {
	t.Helper()
	next, e := tree.Delete(p, root, []byte(key))
	if e != api.OK {
		t.Fatalf("P10.1: Delete(%d, %q): %d and code %d", root, key, next, e)
	}
	return next
}

// mustNotDelete: Delete answers this code.
func mustNotDelete(t *testing.T, p *pager.Pager, root int, key string, want api.Code) {
	t.Helper()
	if next, e := tree.Delete(p, root, []byte(key)); e != want || next != 0 {
		t.Fatalf("P10.1: Delete(%d, %q): %d and code %d, not code %d", root, key, next, e, want)
	}
}

// mustTight: Tight tells this.
func mustTight(t *testing.T, p *pager.Pager, root int, want bool) {
	t.Helper()
	if ok, e := tree.Tight(p, root); e != api.OK || ok != want {
		t.Fatalf("P10.2: Tight(%d): %v and code %d, not %v", root, ok, e, want)
	}
}

// mustNotWalk: Pages, Drop and Tight answer these codes, and change nothing.
func mustNotWalk(t *testing.T, p *pager.Pager, root int, pages, tight api.Code) {
	t.Helper()
	fresh, freed := p.Fresh(), p.Pool().List()
	if l, e := tree.Pages(p, root); e != pages || len(l) != 0 {
		t.Fatalf("P10.2: Pages(%d): %v and code %d, not code %d", root, l, e, pages)
	}
	if ok, e := tree.Tight(p, root); e != tight || ok && tight != api.OK {
		t.Fatalf("P10.2: Tight(%d): %v and code %d, not code %d", root, ok, e, tight)
	}
	if e := tree.Drop(p, root); e != pages {
		t.Fatalf("P10.2: Drop(%d): code %d, not %d", root, e, pages)
	}
	if !slices.Equal(p.Fresh(), fresh) || !slices.Equal(p.Pool().List(), freed) {
		t.Fatalf("P10.2: a walk that answers code %d changed which pages are used", pages)
	}
}

// makePool: a pool of these.
func makePool(t *testing.T, capacity, high int, list ...api.Freed) *pool.Pool {
	t.Helper()
	p, e := pool.New(capacity, high, list)
	if e != api.OK {
		t.Fatalf("pool.New(%d, %d, %v): code %d", capacity, high, list, e)
	}
	return p
}

// makePager: a pager on a disk of so many pages, none of which was ever used.
func makePager(t *testing.T, pages int) *pager.Pager {
	t.Helper()
	return pager.New(disk.New(pages), makePool(t, pages, 2), 5, 3)
}

// flushed: the pager of the next version, none of whose pages is fresh, and its disk. No page that was freed may be used anew.
func flushed(t *testing.T, d *disk.Disk, p *pager.Pager, gen uint64) *pager.Pager {
	t.Helper()
	if e := p.Flush(); e != api.OK {
		t.Fatalf("Flush: code %d", e)
	}
	if e := d.Sync(); e != api.OK {
		t.Fatalf("Sync: code %d", e)
	}
	return pager.New(d, p.Pool(), gen, 0)
}

// writeSays: the disk's page says this.
func writeSays(t *testing.T, d *disk.Disk, no int, says []byte) {
	t.Helper()
	b, e := page.Frame(no, says)
	if e != api.OK {
		t.Fatalf("page.Frame(%d): code %d", no, e)
	}
	if e := d.Write(no, b); e != api.OK {
		t.Fatalf("disk.Write(%d): code %d", no, e)
	}
}

// diskPage: what the disk's page has.
func diskPage(t *testing.T, d *disk.Disk, no int) []byte {
	t.Helper()
	b, e := d.Read(no)
	if e != api.OK {
		t.Fatalf("disk.Read(%d): code %d", no, e)
	}
	return b
}

// putNode: a node on a fresh page.
func putNode(t *testing.T, p *pager.Pager, n node.Node) int {
	t.Helper()
	if !n.May() {
		t.Fatalf("a node of %d bytes that may not be", n.Len())
	}
	no, e := p.Put(n.Pay())
	if e != api.OK {
		t.Fatalf("pager.Put: code %d", e)
	}
	return no
}

// putBranch: a branch of these kids, and the keys between them.
func putBranch(t *testing.T, p *pager.Pager, kids []int, keys ...string) int {
	t.Helper()
	b := &node.Branch{Kids: kids}
	for _, key := range keys {
		b.Keys = append(b.Keys, []byte(key))
	}
	return putNode(t, p, b)
}

// putLeaf: a leaf of items in the leaf.
func putLeaf(t *testing.T, p *pager.Pager, l items) int {
	t.Helper()
	x := &node.Leaf{}
	for _, key := range slices.Sorted(maps.Keys(l)) {
		x.Cells = append(x.Cells, node.Cell{Key: []byte(key), Inline: []byte(l[key])})
	}
	return putNode(t, p, x)
}

// long: n bytes that aren't all the same.
func long(n int) string {
	out := bytes.Repeat([]byte{byte(n)}, n)
	for i := range out {
		out[i] += byte(i*7 + i/251)
	}
	return string(out)
}

// union: all these items.
func union(all ...items) items {
	out := items{}
	for _, l := range all {
		maps.Copy(out, l)
	}
	return out
}

// less: these items, but that of a key.
func less(l items, key string) items {
	out := maps.Clone(l)
	delete(out, key)
	return out
}

// more: these items, and one more, or in place of another one.
func more(l items, key, val string) items {
	out := maps.Clone(l)
	out[key] = val
	return out
}
