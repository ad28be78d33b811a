package tree_test

import (
	"bytes"
	"fmt"
	"maps"
	"math/rand"
	"slices"
	"testing"

	"cambium/api"
	"cambium/disk"
	"cambium/pager"
	"cambium/tree"
)

// saysOf: what pages say.
func saysOf(t *testing.T, p *pager.Pager, pages []int) map[int][]byte {
	t.Helper()
	out := map[int][]byte{}
	for _, no := range pages {
		says, e := p.Read(no)
		if e != api.OK {
			t.Fatalf("page %d: code %d", no, e)
		}
		out[no] = says
	}
	return out
}

// mustMove: a tree was written by fresh pages alone: of the pages that it had, those that it still has say the same, and the others are freed; those that it didn't have are fresh.
func mustMove(t *testing.T, p *pager.Pager, was map[int][]byte, pages []int) {
	t.Helper()
	fresh, freed := p.Fresh(), map[int]bool{}
	for _, f := range p.Pool().List() {
		freed[f.Page] = true
	}
	for no, says := range saysOf(t, p, pages) {
		before, had := was[no]
		if had && !bytes.Equal(before, says) {
			t.Fatalf("P10.3: page %d says something else, and wasn't dropped", no)
		}
		if !had && !slices.Contains(fresh, no) {
			t.Fatalf("P10.3: page %d is one of the tree's, and neither was nor is fresh", no)
		}
	}
	for no := range was {
		if !slices.Contains(pages, no) && !freed[no] {
			t.Fatalf("P10.3: page %d isn't one of the tree's any more, and isn't freed", no)
		}
	}
}

// TestOnlyTheWayIsWritten: where nothing is split or joined, the pages from the root to a leaf are written, and no others.
func TestOnlyTheWayIsWritten(t *testing.T) { // P10.1, P10.3
	d := disk.New(400)
	p := pager.New(d, makePool(t, 400, 2), 1, 0)
	root, all := build(t, p, 100, 200, shape{row(8, 800), row(8, 800), row(8, 800)})
	p = flushed(t, d, p, 2)
	high := p.Pool().High()
	for key := range all {
		for _, n := range []int{0, 199, 200, 201, 1010, 1011} {
			chain := 0
			if n > 200 {
				chain = (n + 1009) / 1010
			}
			p := pager.New(d, p.Pool(), 2, 0)
			was := saysOf(t, p, plainTree(t, p, root).pages)
			next := mustPut(t, p, root, key, long(n), true)
			x := plainTree(t, p, next)
			mustMove(t, p, was, x.pages)
			if !maps.Equal(x.items, more(all, key, long(n))) {
				t.Fatalf("P10.1: the tree has other items")
			}
			if fresh := p.Fresh(); len(fresh) != 3+chain || p.Pool().High() != high+3+chain {
				t.Fatalf("P10.3: a value of %d bytes made the pages %v fresh", n, fresh)
			}
			var gens []uint64
			for _, f := range p.Pool().List() {
				gens = append(gens, f.Gen)
			}
			if !slices.Equal(gens, []uint64{2, 2, 2}) {
				t.Fatalf("P10.3: freed are %v, not three pages in version 2", p.Pool().List())
			}
			for no, says := range was {
				if got, e := pager.New(d, p.Pool(), 2, 0).Read(no); e != api.OK || !bytes.Equal(got, says) {
					t.Fatalf("P10.3: the disk's page %d is another one", no)
				}
			}
		}
	}
}

// version is a version of a tree that is to be read yet.
type version struct {
	gen  uint64
	root int
	all  items
	says map[int][]byte // what its pages have on the disk
}

// TestElderVersions: behind a flush the pages of elder versions are as they were, as long as the horizon isn't above them.
func TestElderVersions(t *testing.T) { // P10.1, P10.3
	for seed := range 6 {
		random := rand.New(rand.NewSource(int64(seed)))
		d := disk.New(2048)
		l := makePool(t, 2048, 2)
		kept := []version{{gen: 1, all: items{}}}
		for gen := uint64(2); gen < 40; gen++ {
			horizon := kept[0].gen
			p := pager.New(d, l, gen, horizon)
			last := kept[len(kept)-1]
			root, all := last.root, maps.Clone(last.all)
			for range 1 + random.Intn(30) {
				root = anyChange(t, random, p, root, all, 60)
			}
			if len(d.Waiting()) != 0 {
				t.Fatalf("P10.3: the disk was written ahead of the flush")
			}
			x := mustBeTight(t, p, root, all)
			p = flushed(t, d, p, gen+1)
			v := version{gen, root, all, map[int][]byte{}}
			for _, no := range x.pages {
				v.says[no] = diskPage(t, d, no)
			}
			kept, l = append(kept, v), p.Pool()
			for _, v := range kept {
				if x := mustBeTight(t, p, v.root, v.all); len(x.pages) != len(v.says) {
					t.Fatalf("P10.3: version %d has other pages", v.gen)
				}
				for no, b := range v.says {
					if !bytes.Equal(diskPage(t, d, no), b) {
						t.Fatalf("P10.3: page %d of version %d has other bytes", no, v.gen)
					}
				}
			}
			kept = kept[random.Intn(min(3, len(kept))):]
		}
	}
}

// TestAllIsFreed: when all items are gone, and each version may be used anew, no page is used.
func TestAllIsFreed(t *testing.T) { // P10.1, P10.2, P10.3
	for _, drop := range []bool{false, true} {
		d := disk.New(300)
		p := pager.New(d, makePool(t, 300, 2), 1, 0)
		root, all := 0, items{}
		for i := range 80 {
			key, val := fmt.Sprintf("key %d", i), long(i*13%1300)
			root = mustPut(t, p, root, key, val, false)
			all[key] = val
		}
		mustBeWhole(t, p, root, all)
		p = flushed(t, d, p, 2)
		if drop {
			if e := tree.Drop(p, root); e != api.OK {
				t.Errorf("P10.2: Drop: code %d", e)
			}
			root = 0
		}
		for _, key := range slices.Sorted(maps.Keys(all)) {
			if !drop {
				root = mustDelete(t, p, root, key)
			}
		}
		if root != 0 || len(p.Fresh()) != 0 {
			t.Errorf("P10.3: the root %d and fresh pages %v are left", root, p.Fresh())
		}
		mustPart(t, p, nil)
		l := p.Pool()
		if l.Trim(2); l.High() != 2 {
			t.Errorf("P10.3: the high mark is %d yet", l.High())
		}
	}
}
