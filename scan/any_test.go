package scan_test

import (
	"math/rand/v2"
	"slices"
	"strings"
	"testing"

	"cambium/api"
	"cambium/disk"
	"cambium/node"
	"cambium/page"
	"cambium/pager"
	"cambium/pool"
	"cambium/scan"
	"cambium/tree"
)

// plain is what the chapter's words say of a scan, gone over as a whole: the items that are told, and the code that ends them.
type plain struct {
	p       *pager.Pager
	reached map[int]int
	least   string
	out     []item
	code    api.Code
	early   bool // whether the code comes from the way to where the first item would be, so that From tells it
	down    bool // whether the scan is past that way
}

// plainScan: all that a scan from a key tells, by the words alone.
func plainScan(p *pager.Pager, root int, key string) *plain {
	x := &plain{p: p, reached: map[int]int{}, least: key}
	if root != 0 {
		x.page(root, key)
	}
	return x
}

// stop: the scan ends with a code.
func (x *plain) stop(code api.Code) {
	x.code, x.early = code, !x.down
}

// page: what is below a page, from a key on.
func (x *plain) page(no int, key string) {
	n, e := x.p.Node(no)
	x.reached[no]++
	if x.reached[no] > 1 {
		e = api.Malformed
	}
	if e != api.OK {
		x.stop(e)
		return
	}
	if b, ok := n.(*node.Branch); ok {
		for i, kid := range b.Kids {
			if x.code == api.OK && (i == len(b.Keys) || string(b.Keys[i]) > key) {
				x.page(kid, key)
				key = ""
			}
		}
		return
	}
	x.down = true
	for _, c := range n.(*node.Leaf).Cells {
		if x.code == api.OK && string(c.Key) >= key {
			x.cell(c)
		}
	}
}

// cell: the item of a cell.
func (x *plain) cell(c node.Cell) {
	if string(c.Key) < x.least {
		x.stop(api.Malformed)
		return
	}
	val := c.Inline
	if c.Size > 0 {
		whole, _, e := x.p.Chain(c.Head, c.Size)
		if e != api.OK {
			x.stop(e)
			return
		}
		val = whole
	}
	x.out = append(x.out, item{string(c.Key), string(val)})
	x.least = string(c.Key) + "\x00"
}

// mustAgree: From, Next and Items tell what the words say, of any pages.
func mustAgree(t *testing.T, p *pager.Pager, root int, key string) {
	t.Helper()
	x := plainScan(p, root, key)
	for i := 1; i < len(x.out); i++ {
		if x.out[i-1].key >= x.out[i].key {
			t.Fatalf("P11.4: the test's own scan tells %q ahead of %q", x.out[i-1].key, x.out[i].key)
		}
	}
	if x.early {
		mustNotFrom(t, p, root, key, x.code)
		return
	}
	s := mustFrom(t, p, root, key)
	mustNext(t, s, x.out...)
	mustNotNext(t, s, x.code)
	mustItems(t, p, root, key, "", len(x.out), x.out)
	if x.code != api.OK {
		mustNotItems(t, p, root, key, "", len(x.out)+1, x.code)
		return
	}
	mustItems(t, p, root, key, "", len(x.out)+1, x.out)
}

// anyKey: some row of few bytes.
func anyKey(r *rand.Rand, least, most int) string {
	out := make([]byte, least+r.IntN(most-least+1))
	for i := range out {
		out[i] = "\x00ab\xfe\xff"[r.IntN(5)]
	}
	return string(out)
}

// TestAnyTree: random trees, to which items come and from which they go, told from random places on.
func TestAnyTree(t *testing.T) { // P11.1 to P11.4
	r := rand.New(rand.NewPCG(11, 1))
	for range 6 {
		d, p := makePager(t, 2000)
		all := map[string]string{}
		root := 0
		lengths := []int{r.IntN(200), r.IntN(200), r.IntN(300), r.IntN(3000)}
		for range 8 {
			for range 40 {
				key := anyKey(r, 1, 4) + strings.Repeat("k", r.IntN(90))
				if r.IntN(5) > 0 {
					all[key] = long(lengths[r.IntN(4)])
					root, _, _ = tree.Put(p, root, []byte(key), []byte(all[key]))
				} else if _, ok := all[key]; ok {
					delete(all, key)
					root, _ = tree.Delete(p, root, []byte(key))
				}
			}
			sorted := []item{}
			for key, val := range all {
				sorted = append(sorted, item{key, val})
			}
			slices.SortFunc(sorted, func(a, b item) int { return strings.Compare(a.key, b.key) })
			for range 10 {
				low, high, most := anyKey(r, 0, 5), anyKey(r, 0, 5), r.IntN(30)
				mustAgree(t, p, root, low)
				mustScan(t, p, root, low, from(sorted, low))
				mustItems(t, p, root, low, high, most, first(below(from(sorted, low), high), most))
				behind := string(scan.Behind([]byte(low)))
				mustItems(t, p, root, low, behind, 1000, below(from(sorted, low), behind))
			}
			p = flushed(t, d, p)
		}
	}
}

// anyNode: some node, whose kids, and whose chains, are pages below so many.
func anyNode(r *rand.Rand, pages int) node.Node {
	var keys []string
	for range r.IntN(4) {
		keys = append(keys, anyKey(r, 1, 2))
	}
	slices.Sort(keys)
	keys = slices.Compact(keys)
	if r.IntN(2) == 0 {
		l := leafOf(keys...)
		for i := range l.Cells {
			if r.IntN(6) == 0 {
				l.Cells[i] = node.Cell{Key: l.Cells[i].Key, Size: 201 + r.IntN(2000), Head: 2 + r.IntN(pages-2)}
			}
		}
		return l
	}
	var kids []int
	for range len(keys) + 1 {
		kids = append(kids, 2+r.IntN(pages-2))
	}
	return branchOf(kids, keys...)
}

// TestAnyPages: random pages, few of which are a tree: each scan ends, and tells what the words say.
func TestAnyPages(t *testing.T) { // P11.1, P11.2, P11.4
	r := rand.New(rand.NewPCG(11, 2))
	const pages = 14
	codes := map[api.Code]int{}
	for range 500 {
		d := disk.New(pages)
		for no := 2; no < pages; no++ {
			says := anyNode(r, pages).Pay()
			if r.IntN(9) == 0 {
				says = node.Link(r.IntN(pages), []byte(long(201+r.IntN(800))))
			}
			b, e := page.Frame(no, says)
			if e != api.OK {
				t.Fatalf("page.Frame: code %d", e)
			}
			if r.IntN(12) == 0 {
				b = page.Torn(b)
			}
			writePage(t, d, no, b)
		}
		l, _ := pool.New(pages, pages, nil)
		p := pager.New(d, l, 9, 0)
		for root := range pages + 1 {
			for _, key := range []string{"", anyKey(r, 0, 3), anyKey(r, 1, 3)} {
				mustAgree(t, p, root, key)
				x := plainScan(p, root, key)
				if len(x.out) > 1 {
					codes[x.code]++
				}
			}
		}
	}
	for _, code := range []api.Code{api.OK, api.Sum, api.Malformed} {
		if codes[code] < 40 {
			t.Errorf("the test's own pages end with code %d but %d times", code, codes[code])
		}
	}
}
