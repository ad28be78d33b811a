package tree_test

import (
	"testing"

	"cambium/api"
	"cambium/disk"
	"cambium/pager"
	"cambium/tree"
)

// written: a tree of a shape on a disk, none of whose pages is fresh, and the pager of the next version.
func written(t *testing.T, keyLen int, s shape) (*disk.Disk, *pager.Pager, int, items) {
	t.Helper()
	d := disk.New(400)
	p := pager.New(d, makePool(t, 400, 2), 1, 0)
	root, all := 0, items{}
	if len(s) > 0 {
		root, all = build(t, p, keyLen, 200, s)
	}
	return d, flushed(t, d, p, 2), root, all
}

// narrow: a pager with so many pages left, of which some lie ahead of the high mark, freed early enough. Others, freed too late, aren't left.
func narrow(t *testing.T, d *disk.Disk, high, left, ahead int) *pager.Pager {
	t.Helper()
	var freed []api.Freed
	for i := range ahead {
		freed = append(freed, api.Freed{Page: high + i, Gen: 3})
	}
	for i := range 5 {
		freed = append(freed, api.Freed{Page: high + ahead + i, Gen: 4})
	}
	return pager.New(d, makePool(t, high+5+left, high+5+ahead, freed...), 9, 3)
}

// TestFull: where there are as many pages as the new tree needs, there is no code; with one page less it is Full, be it ahead of the first page or in the midst; the tree that was can be read.
func TestFull(t *testing.T) { // P10.1
	long200 := long(200)
	for _, c := range []struct {
		what string
		s    shape
		key  string // none: one is put, in place of none
		val  string
		need int
	}{
		{"the first item", nil, "", "v", 1},
		{"the first item, with a chain", nil, "", long(5000), 6},
		{"an item more", shape{row(3, 800)}, "", "v", 2},
		{"an item more, with a chain", shape{row(3, 800)}, "", long(1011), 4},
		{"an item more, below three levels", shape{row(8, 800), row(8, 800)}, "", "v", 3},
		{"a leaf that is split", shape{row(3, 912)}, "", long200, 3},
		{"a root that is split", shape{row(10, 912)}, "", long200, 5},
		{"a branch that is split", shape{row(10, 912), row(8, 912)}, "", long200, 5},
		{"a value in place of another one", shape{row(3, 800)}, prefixOf(0, 1, 100) + "01", long(5), 2},
		{"a greater one", shape{row(3, 800)}, prefixOf(0, 1, 100) + "01", long(16384), 19},
	} {
		for left := range c.need + 2 {
			for ahead := range left + 1 {
				d, p, root, all := written(t, 100, c.s)
				high := p.Pool().High()
				p = narrow(t, d, high, left, ahead)
				key, was := c.key, true
				if key == "" {
					key, was = prefixOf(0, 1, 100)+"0\xff", false
				}
				if left >= c.need {
					next := mustPut(t, p, root, key, c.val, was)
					mustBeTight(t, p, next, more(all, key, c.val))
					continue
				}
				mustNotPut(t, p, root, key, c.val, api.Full)
				mustBeTight(t, narrow(t, d, high, 0, 0), root, all)
				if len(d.Waiting()) != 0 {
					t.Fatalf("P10.1: the disk was written by a put that is Full: %s", c.what)
				}
			}
		}
	}
}

// TestFullDelete: a delete needs pages, too, if none is left in the end.
func TestFullDelete(t *testing.T) { // P10.1
	for _, c := range []struct {
		what string
		s    shape
		need int
	}{
		{"below two levels", shape{row(3, 915)}, 2},
		{"below two levels, of which one goes", shape{row(2, 609)}, 1},
		{"below three levels", shape{row(8, 915), row(8, 915)}, 3},
		{"below three levels, of which leaves are joined", shape{row(8, 609), row(8, 609)}, 3},
		{"below three levels, of which one goes", shape{row(5, 609), row(6, 609)}, 2},
	} {
		for left := range c.need + 2 {
			d, p, root, all := written(t, 100, c.s)
			high := p.Pool().High()
			p = narrow(t, d, high, left, 0)
			key := prefixOf(0, 0, 100) + "00"
			if left >= c.need {
				next := mustDelete(t, p, root, key)
				mustBeTight(t, p, next, less(all, key))
				continue
			}
			mustNotDelete(t, p, root, key, api.Full)
			mustBeTight(t, narrow(t, d, high, 0, 0), root, all)
		}
	}
	d, p, _, _ := written(t, 100, nil)
	p = narrow(t, d, 2, 1, 0)
	if next := mustDelete(t, p, mustPut(t, p, 0, "k", "v", false), "k"); next != 0 {
		t.Errorf("P10.1: the last item is gone, and the root is %d", next)
	}
}

// TestFullOfItself: items are put till the disk is full; till then all is as it was put.
func TestFullOfItself(t *testing.T) { // P10.1, P10.3
	for pages := 2; pages < 26; pages++ {
		for kind, item := range kinds() {
			p := makePager(t, pages)
			root, all := 0, items{}
			for i := 0; ; i++ {
				key, val := item(i * 37 % 9973)
				next, was, e := tree.Put(p, root, []byte(key), []byte(val))
				if e == api.Full {
					if next != 0 || was {
						t.Fatalf("P10.1: beside Full %d and %v", next, was)
					}
					break
				}
				if e != api.OK || was {
					t.Fatalf("P10.1: Put: %v and code %d", was, e)
				}
				root, all[key] = next, val
				if i%40 == 0 {
					lightly(t, p, root, all)
				}
			}
			if len(all) < (pages-4)/2 {
				t.Errorf("P10.3: %s: %d pages are full with %d items", kind, pages, len(all))
			}
		}
	}
}
