package scan_test

import (
	"bytes"
	"math"
	"slices"
	"testing"

	"cambium/api"
	"cambium/disk"
	"cambium/node"
	"cambium/page"
	"cambium/pager"
	"cambium/pool"
	"cambium/scan"
	"cambium/tree"
)

// item is a key and its value, as texts.
type item struct{ key, val string }

// from: of items that rise, those whose keys are at least one.
func from(all []item, key string) []item {
	for len(all) > 0 && all[0].key < key {
		all = all[1:]
	}
	return all
}

// below: of items that rise, those whose keys are below one; all, if that is empty.
func below(all []item, key string) []item {
	for key != "" && len(all) > 0 && all[len(all)-1].key >= key {
		all = all[:len(all)-1]
	}
	return all
}

// first: the first of items, so many at most.
func first(all []item, most int) []item {
	return all[:max(0, min(most, len(all)))]
}

// told: what was told, as texts.
func told(x api.Item) item {
	return item{string(x.Key), string(x.Val)}
}

// mustFrom: From tells a scan.
func mustFrom(t *testing.T, p *pager.Pager, root int, key string) *scan.Scan {
	t.Helper()
	s, e := scan.From(p, root, []byte(key))
	if e != api.OK || s == nil {
		t.Fatalf("P11.1: From(%d, %q): code %d", root, key, e)
	}
	return s
}

// mustNotFrom: From, and Items from there, answer this code.
func mustNotFrom(t *testing.T, p *pager.Pager, root int, key string, want api.Code) {
	t.Helper()
	if s, e := scan.From(p, root, []byte(key)); e != want || s != nil {
		t.Fatalf("P11.1: From(%d, %q): %v and code %d, not code %d", root, key, s, e, want)
	}
	mustNotItems(t, p, root, key, "", 1, want)
	mustNotItems(t, p, root, key, "", math.MaxInt, want)
}

// mustNext: Next tells these items, one by one.
func mustNext(t *testing.T, s *scan.Scan, want ...item) {
	t.Helper()
	for _, w := range want {
		if x, ok, e := s.Next(); e != api.OK || !ok || told(x) != w {
			t.Fatalf("P11.1: Next: %q, %d bytes, %v and code %d, not %q and %d bytes", x.Key, len(x.Val), ok, e, w.key, len(w.val))
		}
	}
}

// mustNotNext: Next answers this code, none and false, as often as it is asked.
func mustNotNext(t *testing.T, s *scan.Scan, want api.Code) {
	t.Helper()
	for range 4 {
		if x, ok, e := s.Next(); e != want || ok || x.Key != nil || x.Val != nil {
			t.Fatalf("P11.1: Next: %q, %d bytes, %v and code %d, not code %d", x.Key, len(x.Val), ok, e, want)
		}
	}
}

// mustScan: a scan from a key tells these items, and is at its end then.
func mustScan(t *testing.T, p *pager.Pager, root int, key string, want []item) {
	t.Helper()
	s := mustFrom(t, p, root, key)
	mustNext(t, s, want...)
	mustNotNext(t, s, api.OK)
}

// mustItems: Items tells these.
func mustItems(t *testing.T, p *pager.Pager, root int, from, to string, most int, want []item) {
	t.Helper()
	l, e := scan.Items(p, root, []byte(from), []byte(to), most)
	if e != api.OK || !slices.EqualFunc(l, want, func(x api.Item, w item) bool { return told(x) == w }) {
		t.Fatalf("P11.2: Items(%d, %q, %q, %d): %d items and code %d, not %d, or other ones", root, from, to, most, len(l), e, len(want))
	}
}

// mustNotItems: Items answers this code.
func mustNotItems(t *testing.T, p *pager.Pager, root int, from, to string, most int, want api.Code) {
	t.Helper()
	if l, e := scan.Items(p, root, []byte(from), []byte(to), most); e != want || l != nil {
		t.Fatalf("P11.2: Items(%d, %q, %q, %d): %d items and code %d, not code %d", root, from, to, most, len(l), e, want)
	}
}

// makePager: a pager on a disk of so many pages, none of which was ever used.
func makePager(t *testing.T, pages int) (*disk.Disk, *pager.Pager) {
	t.Helper()
	l, e := pool.New(pages, 2, nil)
	if e != api.OK {
		t.Fatalf("pool.New(%d, 2): code %d", pages, e)
	}
	d := disk.New(pages)
	return d, pager.New(d, l, 5, 3)
}

// flushed: the pager of the next version, none of whose pages is fresh.
func flushed(t *testing.T, d *disk.Disk, p *pager.Pager) *pager.Pager {
	t.Helper()
	if e := p.Flush(); e != api.OK {
		t.Fatalf("Flush: code %d", e)
	}
	if e := d.Sync(); e != api.OK {
		t.Fatalf("Sync: code %d", e)
	}
	return pager.New(d, p.Pool(), 6, 0)
}

// treeOf: the root of a tree of these items, put one by one, not in their order.
func treeOf(t *testing.T, p *pager.Pager, all []item) int {
	t.Helper()
	root := 0
	for at := range all {
		x := all[at*71%len(all)]
		if len(all)%71 == 0 {
			x = all[at]
		}
		next, _, e := tree.Put(p, root, []byte(x.key), []byte(x.val))
		if e != api.OK {
			t.Fatalf("tree.Put(%q, %d bytes): code %d", x.key, len(x.val), e)
		}
		root = next
	}
	return root
}

// levels: how many nodes stand from a tree's root to its first leaf.
func levels(t *testing.T, p *pager.Pager, root int) int {
	t.Helper()
	n := 0
	for no := root; no != 0; n++ {
		x, e := p.Node(no)
		if e != api.OK {
			t.Fatalf("page %d: code %d", no, e)
		}
		no = 0
		if b, ok := x.(*node.Branch); ok {
			no = b.Kids[0]
		}
	}
	return n
}

// putNode: a node on a fresh page.
func putNode(t *testing.T, p *pager.Pager, n node.Node) int {
	t.Helper()
	if !n.May() {
		t.Fatalf("a node of %d bytes that may not be", n.Len())
	}
	no, e := p.Put(n.Pay())
	if e != api.OK {
		t.Fatalf("pager.Put: code %d", e)
	}
	return no
}

// setNode: a fresh page says this node.
func setNode(t *testing.T, p *pager.Pager, no int, n node.Node) {
	t.Helper()
	if e := p.Set(no, n.Pay()); e != api.OK || !n.May() {
		t.Fatalf("pager.Set(%d): code %d", no, e)
	}
}

// branchOf: a branch of these kids, and the keys between them.
func branchOf(kids []int, keys ...string) *node.Branch {
	b := &node.Branch{Kids: kids}
	for _, key := range keys {
		b.Keys = append(b.Keys, []byte(key))
	}
	return b
}

// leafOf: a leaf of items whose keys and values are these.
func leafOf(keys ...string) *node.Leaf {
	l := &node.Leaf{}
	for _, key := range keys {
		l.Cells = append(l.Cells, node.Cell{Key: []byte(key), Inline: []byte(key)})
	}
	return l
}

// putBranch: a branch on a fresh page.
func putBranch(t *testing.T, p *pager.Pager, kids []int, keys ...string) int {
	t.Helper()
	return putNode(t, p, branchOf(kids, keys...))
}

// putLeaf: a leaf on a fresh page.
func putLeaf(t *testing.T, p *pager.Pager, keys ...string) int {
	t.Helper()
	return putNode(t, p, leafOf(keys...))
}

// itemsOf: items whose keys and values are these.
func itemsOf(keys ...string) []item {
	var out []item
	for _, key := range keys {
		out = append(out, item{key, key})
	}
	return out
}

// tornPage: the disk's page is torn.
func tornPage(t *testing.T, d *disk.Disk, no int) {
	t.Helper()
	writePage(t, d, no, page.Torn(diskPage(t, d, no)))
}

// diskPage: what the disk's page has.
func diskPage(t *testing.T, d *disk.Disk, no int) []byte {
	t.Helper()
	b, e := d.Read(no)
	if e != api.OK {
		t.Fatalf("disk.Read(%d): code %d", no, e)
	}
	return b
}

// writePage: the disk's page has these bytes.
func writePage(t *testing.T, d *disk.Disk, no int, b []byte) {
	t.Helper()
	if e := d.Write(no, b); e != api.OK {
		t.Fatalf("disk.Write(%d): code %d", no, e)
	}
}

// junkPage: the bytes of a page that is whole, but says nothing that a tree's page may say.
func junkPage(t *testing.T, no int) []byte {
	t.Helper()
	b, e := page.Frame(no, bytes.Repeat([]byte{0xFF}, 9))
	if e != api.OK {
		t.Fatalf("page.Frame(%d): code %d", no, e)
	}
	return b
}

// long: n bytes that aren't all the same.
func long(n int) string {
	out := bytes.Repeat([]byte{byte(n)}, n)
	for i := range out {
		out[i] += byte(i*7 + i/251)
	}
	return string(out)
}
