package tree_test

import (
	"bytes"
	"maps"
	"slices"
	"testing"

	"cambium/api"
	"cambium/disk"
	"cambium/pager"
	"cambium/tree"
)

// spoil: bytes are written over, and what would be put behind them, too.
func spoil(b []byte) {
	b = b[:cap(b)]
	for i := range b {
		b[i] = 0x5A
	}
}

// handIn: bytes are handed to a call; it must leave them, and the room behind them, as they are; then they are written over.
func handIn(t *testing.T, what, text string, call func(b []byte)) {
	t.Helper()
	whole := append([]byte(text), bytes.Repeat([]byte{0xC3}, 2000)...)
	before := bytes.Clone(whole)
	call(whole[:len(text)])
	if !bytes.Equal(whole, before) {
		t.Fatalf("rule 3: %s changed what was handed in", what)
	}
	spoil(whole)
}

// TestWhatIsHandedInIsNotKept: keys and values are written over behind each call, in leaves that are split and joined.
func TestWhatIsHandedInIsNotKept(t *testing.T) { // P10.1
	for _, lengths := range [][]int{{0, 1, 5}, {190, 200, 201}, {1010, 1011, 3000}} {
		d := disk.New(900)
		p := pager.New(d, makePool(t, 900, 2), 1, 0)
		root, all := 0, items{}
		for i, key := range edgeKeys {
			val := long(lengths[i%3])
			handIn(t, "Put, of its key", key, func(k []byte) {
				handIn(t, "Put, of its value", val, func(v []byte) {
					root, _, _ = tree.Put(p, root, k, v)
				})
			})
			all[key] = val
			mustBeWhole(t, p, root, all)
			handIn(t, "Get", key, func(k []byte) { tree.Get(p, root, k) })
		}
		p = flushed(t, d, p, 2)
		for i, key := range edgeKeys {
			handIn(t, "Put, of its key", key, func(k []byte) {
				handIn(t, "Put, of its value", long(i), func(v []byte) {
					root, _, _ = tree.Put(p, root, k, v)
				})
			})
			all[key] = long(i)
			mustBeTight(t, p, root, all)
		}
		p = flushed(t, d, p, 3)
		mustBeTight(t, p, root, all)
		for _, key := range edgeKeys {
			handIn(t, "Delete", key, func(k []byte) { root, _ = tree.Delete(p, root, k) })
			delete(all, key)
			mustBeTight(t, p, root, all)
		}
	}
}

// TestWhatIsHandedInToWrongCalls: it stays as it is where a code is told, too.
func TestWhatIsHandedInToWrongCalls(t *testing.T) { // P10.1
	p := makePager(t, 5)
	root := mustPut(t, p, 0, "k", "v", false)
	for _, key := range []string{"", "k", "j", long(100), long(101)} {
		for _, n := range []int{0, 200, 5000, 16384, 16385} {
			handIn(t, "Put, of its key", key, func(k []byte) {
				handIn(t, "Put, of its value", long(n), func(v []byte) {
					tree.Put(pager.New(disk.New(5), p.Pool(), 2, 0), root, k, v)
					tree.Put(pager.New(disk.New(5), p.Pool(), 2, 0), 0, k, v)
				})
			})
		}
		handIn(t, "Get", key, func(k []byte) { tree.Get(p, root+1, k) })
		handIn(t, "Delete", key, func(k []byte) { tree.Delete(p, root+1, k) })
	}
	mustGet(t, p, root, "k", "v")
}

// TestWhatIsAnsweredIsNewMemory: written over, it changes nothing that is told.
func TestWhatIsAnsweredIsNewMemory(t *testing.T) { // P10.1, P10.2
	d := disk.New(400)
	p := pager.New(d, makePool(t, 400, 2), 1, 0)
	root, all := 0, items{}
	for i, key := range edgeKeys {
		val := long(edgeLengths[i%len(edgeLengths)])
		root = mustPut(t, p, root, key, val, false)
		all[key] = val
	}
	for range 2 {
		was := saysOf(t, p, plainTree(t, p, root).pages)
		for key, val := range all {
			got, _ := tree.Get(p, root, []byte(key))
			again, _ := tree.Get(p, root, []byte(key))
			spoil(got)
			if string(again) != val {
				t.Fatalf("rule 3: two answers of Get share memory")
			}
			mustGet(t, p, root, key, val)
		}
		pages, _ := tree.Pages(p, root)
		other, e := tree.Pages(p, root)
		kept := slices.Clone(other)
		for i := range pages[:cap(pages)] {
			pages[:cap(pages)][i] = 2
		}
		if e != api.OK || !slices.Equal(other, kept) {
			t.Fatalf("rule 3: two answers of Pages share memory")
		}
		if !maps.EqualFunc(saysOf(t, p, kept), was, bytes.Equal) {
			t.Fatalf("rule 3: what was answered is written over, and pages say something else")
		}
		mustBeTight(t, p, root, all)
		p = flushed(t, d, p, 2)
	}
}

// TestNothingIsChangedByReading: Get, Pages and Tight, and calls that tell NotFound or Arg, change no page.
func TestNothingIsChangedByReading(t *testing.T) { // P10.1, P10.2
	d, p, root, all := faultyTree(t)
	root = mustPut(t, p, root, "one", "more", false)
	all["one"] = "more"
	x := mustBeTight(t, p, root, all)
	fresh, freed, was := p.Fresh(), p.Pool().List(), saysOf(t, p, x.pages)
	for key := range all {
		tree.Get(p, root, []byte(key))
		mustNotGet(t, p, root, key+"x", api.NotFound)
		mustNotDelete(t, p, root, key+"x", api.NotFound)
		mustNotPut(t, p, root, key, long(16385), api.Arg)
	}
	mustTight(t, p, root, true)
	tree.Pages(p, root)
	if !slices.Equal(p.Fresh(), fresh) || !slices.Equal(p.Pool().List(), freed) || len(d.Waiting()) != 0 {
		t.Errorf("rule 4: what reads changed which pages are used")
	}
	if !maps.EqualFunc(saysOf(t, p, x.pages), was, bytes.Equal) {
		t.Errorf("rule 4: what reads changed what pages say")
	}
}
