package node_test

import (
	"bytes"
	"slices"
	"testing"

	"cambium/api"
	"cambium/node"
)

// spoil: bytes are written over, and what would be put behind them, too.
func spoil(b []byte) {
	b = b[:cap(b)]
	for i := range b {
		b[i] = 0x5A
	}
}

// parts: all lists of bytes that a node has.
func parts(n node.Node) [][]byte {
	var out [][]byte
	switch x := n.(type) {
	case *node.Leaf:
		for _, c := range x.Cells {
			out = append(out, c.Key, c.Inline)
		}
	case *node.Branch:
		out = append(out, x.Keys...)
	}
	return out
}

// apart: a node of the same parts in memory of its own.
func apart(n node.Node) node.Node {
	switch x := n.(type) {
	case *node.Leaf:
		l := &node.Leaf{}
		for _, c := range x.Cells {
			l.Cells = append(l.Cells, node.Cell{Key: bytes.Clone(c.Key), Inline: bytes.Clone(c.Inline), Size: c.Size, Head: c.Head})
		}
		return l
	case *node.Branch:
		b := &node.Branch{Kids: slices.Clone(x.Kids)}
		for _, key := range x.Keys {
			b.Keys = append(b.Keys, bytes.Clone(key))
		}
		return b
	}
	return nil
}

// spoilAll: a node's parts, lists and what stands behind them are written over.
func spoilAll(n node.Node) {
	for _, part := range parts(n) {
		spoil(part)
	}
	switch x := n.(type) {
	case *node.Leaf:
		cells := x.Cells[:cap(x.Cells)]
		for i := range cells {
			cells[i] = chained("spoilt", 1, 1)
		}
	case *node.Branch:
		keys, kids := x.Keys[:cap(x.Keys)], x.Kids[:cap(x.Kids)]
		for i := range keys {
			keys[i] = []byte("spoilt")
		}
		for i := range kids {
			kids[i] = 1
		}
	}
}

// withRoom: a node of the same parts, each within a greater row of bytes, which are told, too.
func withRoom(n node.Node) (node.Node, [][]byte) {
	n = apart(n)
	var wholes [][]byte
	put := func(b []byte) []byte {
		part, whole := roomy(b)
		wholes = append(wholes, whole)
		return part
	}
	switch x := n.(type) {
	case *node.Leaf:
		for i := range x.Cells {
			x.Cells[i].Key, x.Cells[i].Inline = put(x.Cells[i].Key), put(x.Cells[i].Inline)
		}
		x.Cells = append(x.Cells, inline("behind", "cells"))[:len(x.Cells)]
	case *node.Branch:
		for i := range x.Keys {
			x.Keys[i] = put(x.Keys[i])
		}
		x.Keys = append(x.Keys, []byte("behind"))[:len(x.Keys)]
		x.Kids = append(x.Kids, 99)[:len(x.Kids)]
	}
	return n, wholes
}

// behindLists: whether the rooms behind a node's lists are as withRoom left them.
func behindLists(n node.Node) bool {
	switch x := n.(type) {
	case *node.Leaf:
		return string(x.Cells[:len(x.Cells)+1][len(x.Cells)].Key) == "behind"
	case *node.Branch:
		return string(x.Keys[:len(x.Keys)+1][len(x.Keys)]) == "behind" && x.Kids[:len(x.Kids)+1][len(x.Kids)] == 99
	}
	return false
}

// rightAndWrong: ordinary nodes, and some that may not be.
func rightAndWrong() map[string]node.Node {
	nodes := ordinary()
	nodes["a long value"] = leaf(inline("a", long(300)))
	nodes["keys that fall"] = leaf(inline("b", "x"), inline("a", "y"))
	nodes["bytes and a size"] = leaf(node.Cell{Key: []byte("k"), Inline: []byte("v"), Size: 300, Head: 7})
	nodes["kids that are too few"] = branch([]int{2, 3}, "k", "l")
	nodes["a kid that may not be"] = branch([]int{2, 1}, "k")
	return nodes
}

func TestNodesAreNotChanged(t *testing.T) { // P8.1
	for what, was := range rightAndWrong() {
		n, wholes := withRoom(was)
		var before [][]byte
		for _, whole := range wholes {
			before = append(before, bytes.Clone(whole))
		}
		n.Len()
		n.May()
		says := n.Pay()
		if !same(n, was) || !behindLists(n) || !slices.EqualFunc(wholes, before, bytes.Equal) {
			t.Errorf("P8.1: %s: Len, May or Pay changed the node, or what stands beside its parts", what)
		}
		told, again := bytes.Clone(says), n.Pay()
		spoil(again)
		if !same(n, was) || !slices.EqualFunc(wholes, before, bytes.Equal) || !bytes.Equal(n.Pay(), told) {
			t.Errorf("P8.1: %s: what Pay answers shares memory with the node", what)
		}
		spoilAll(n)
		if !bytes.Equal(says, told) {
			t.Errorf("P8.1: %s: what Pay answered changes with the node, or with another answer", what)
		}
	}
}

// TestNodesKeepNothing: what a node says hangs on what it has now.
func TestNodesKeepNothing(t *testing.T) { // P8.1
	l := leaf(inline("a", "x"))
	mustBe(t, "a leaf", l)
	l.Cells = append(l.Cells, chained("b", 300, 9))
	mustBe(t, "a leaf with a cell more", l)
	l.Cells[0].Key[0] = 'c'
	mustNotBe(t, "a leaf whose key was written over", l, 18)
	l.Cells[0].Key[0] = 'A'
	mustBe(t, "a leaf whose key was written over again", l)
	b := branch([]int{2, 3}, "k")
	mustBe(t, "a branch", b)
	b.Kids[0] = 1
	mustNotBe(t, "a branch whose kid was written over", b, 13)
	b.Kids[0] = 9
	mustBe(t, "a branch whose kid was written over again", b)
}

func TestFromPayTouchesNothing(t *testing.T) { // P8.1
	for what, n := range rightAndWrong() {
		for _, length := range []int{n.Len(), 1015, 1016, 1017} {
			page := append(filled(plainSays(n)), 0)
			part, whole := roomy(page[:length])
			was := bytes.Clone(whole)
			want := plainRead(was[5 : 5+length])
			got, e := node.FromPay(part)
			other, _ := node.FromPay(part)
			if !bytes.Equal(whole, was) {
				t.Errorf("P8.1: %s: bytes that were handed to FromPay are changed, or what stands beside them", what)
			}
			if e != api.OK {
				continue
			}
			spoilAll(other)
			if !bytes.Equal(whole, was) {
				t.Errorf("P8.1: %s: what FromPay answers shares memory with what was handed in", what)
			}
			spoil(whole)
			if !same(got, want) {
				t.Errorf("P8.1: %s: what FromPay answered changes with what was handed in, or with another answer", what)
			}
		}
	}
}

// TestPartsShareNothing: a part of a node that was read may be written over, and more put behind it, and no other one changes.
func TestPartsShareNothing(t *testing.T) { // P8.1
	for what, n := range ordinary() {
		page := filled(plainSays(n))
		for i := range parts(n) {
			got, e := node.FromPay(page)
			if e != api.OK {
				t.Fatalf("P8.1: %s: code %d", what, e)
			}
			list := parts(got)
			_ = append(list[i], "put behind it"...)
			if !same(got, n) {
				t.Errorf("P8.1: %s: what is put behind part %d changes the node", what, i)
			}
			spoil(list[i])
			for j, want := range parts(n) {
				if i != j && !bytes.Equal(list[j], want) {
					t.Errorf("P8.1: %s: parts %d and %d share memory", what, i, j)
				}
			}
		}
	}
}
