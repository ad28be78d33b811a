package tree

import (
	"maps"
	"slices"

	"cambium/api"
	"cambium/node"
	"cambium/pager"
)

// walk is a way over all of a tree, on which each page is reached once.
type walk struct {
	pager   *pager.Pager
	reached map[int]struct{}
	depth   int // how far the leaves are from the root; below 0 till the first of them is reached
}

// newWalk makes a walk that has reached nothing yet.
func newWalk(p *pager.Pager) *walk {
	return &walk{pager: p, reached: map[int]struct{}{}, depth: -1}
}

// over: goes over a tree, and does something with each node and the nodes of its kids, of which each comes ahead of what it is a kid of; the root's node, none if there is no item. Sum, Malformed, and the codes of what is done.
func (w *walk) over(root int, each func(n node.Node, kids []node.Node) api.Code) (node.Node, api.Code) {
	if root == 0 {
		return nil, api.OK
	}
	return w.below(root, 0, each)
}

// below: goes over what is below a page, and that page.
func (w *walk) below(no, depth int, each func(n node.Node, kids []node.Node) api.Code) (node.Node, api.Code) {
	if !w.reach(no) {
		return nil, api.Malformed
	}
	n, code := w.pager.Node(no)
	if code != api.OK {
		return nil, code
	}
	var kids []node.Node
	switch x := n.(type) {
	case *node.Leaf:
		if !w.mayBeLeaf(depth) {
			return nil, api.Malformed
		}
	case *node.Branch:
		for _, no := range x.Kids {
			kid, code := w.below(no, depth+1, each)
			if code != api.OK {
				return nil, code
			}
			kids = append(kids, kid)
		}
	}
	if code := each(n, kids); code != api.OK {
		return nil, code
	}
	return n, api.OK
}

// reach: whether a page is reached for the first time.
func (w *walk) reach(no int) bool {
	if _, ok := w.reached[no]; ok {
		return false
	}
	w.reached[no] = struct{}{}
	return true
}

// reachChains: the pages of a node's chains are reached, which only a leaf has. Sum, Malformed.
func (w *walk) reachChains(n node.Node) api.Code {
	l, ok := n.(*node.Leaf)
	if !ok {
		return api.OK
	}
	for _, c := range l.Cells {
		if !inChain(c) {
			continue
		}
		_, pages, code := w.pager.Chain(c.Head, c.Size)
		if code != api.OK {
			return code
		}
		for _, no := range pages {
			if !w.reach(no) {
				return api.Malformed
			}
		}
	}
	return api.OK
}

// mayBeLeaf: whether a leaf may be so far from the root: as far as the first one that was reached.
func (w *walk) mayBeLeaf(depth int) bool {
	if w.depth < 0 {
		w.depth = depth
	}
	return depth == w.depth
}

// pages: all pages that were reached, rising.
func (w *walk) pages() []int {
	return slices.Sorted(maps.Keys(w.reached))
}
