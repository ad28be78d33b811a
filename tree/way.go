package tree

import (
	"bytes"
	"slices"

	"cambium/api"
	"cambium/node"
	"cambium/pager"
)

// way is how a key's place is found: the branches from the root down, and the leaf. Of a tree without items that is an empty one, on no page.
type way struct {
	steps []step
	page  int
	leaf  *node.Leaf
}

// step is a branch on a way, and by which of its kids that goes on.
type step struct {
	page   int
	branch *node.Branch
	at     int
}

// wayTo: the way to a key. Sum, Malformed.
func wayTo(p *pager.Pager, root int, key []byte) (way, api.Code) {
	if root == 0 {
		return way{leaf: &node.Leaf{}}, api.OK
	}
	w := way{page: root}
	// A way that leads into itself would never end.
	for !w.passes(w.page) {
		n, code := p.Node(w.page)
		if code != api.OK {
			return way{}, code
		}
		b, ok := n.(*node.Branch)
		if !ok {
			w.leaf = n.(*node.Leaf)
			return w, api.OK
		}
		at := kidFor(b, key)
		w.steps = append(w.steps, step{page: w.page, branch: b, at: at})
		w.page = b.Kids[at]
	}
	return way{}, api.Malformed
}

// passes: whether a page is that of a step.
func (w way) passes(no int) bool {
	return slices.ContainsFunc(w.steps, func(s step) bool { return s.page == no })
}

// kidFor: which kid of a branch a key belongs below.
func kidFor(b *node.Branch, key []byte) int {
	at, found := slices.BinarySearchFunc(b.Keys, key, bytes.Compare)
	if found {
		// What is below the kid behind a key is at least that key.
		return at + 1
	}
	return at
}

// placeOf: where in a leaf a key's cell stands, or would stand, and whether it is there.
func placeOf(l *node.Leaf, key []byte) (int, bool) {
	return slices.BinarySearchFunc(l.Cells, key, func(c node.Cell, key []byte) int {
		return bytes.Compare(c.Key, key)
	})
}
