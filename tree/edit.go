package tree

import (
	"slices"
	"sort"

	"cambium/api"
	"cambium/node"
	"cambium/pager"
)

// edit is a tree while it becomes another one. The new nodes are put, and the old pages dropped, when all is made and read that need be: till then what is read is the tree that was, and no page is put that isn't needed in the end.
type edit struct {
	pager *pager.Pager
	depth int         // how far the leaves are from the root
	made  []node.Node // nodes without a page yet; the one at i has the number ^i, which is below those of pages
	gone  []int       // pages that aren't needed any more
}

// change: the root of the tree in which something was done with the leaf of a key, where that key's cell stands, or would stand. Full, Sum, Malformed, and the codes of what is done.
func change(p *pager.Pager, root int, key []byte, do func(l *node.Leaf, at int, found bool) api.Code) (int, api.Code) {
	w, code := wayTo(p, root, key)
	if code != api.OK {
		return 0, code
	}
	e := &edit{pager: p, depth: len(w.steps)}
	was := w.leaf.Len()
	at, found := placeOf(w.leaf, key)
	var old node.Cell
	if found {
		old = w.leaf.Cells[at]
	}
	if code := do(w.leaf, at, found); code != api.OK {
		return 0, code
	}
	if code := e.leaveChain(old); code != api.OK {
		return 0, code
	}
	e.leave(w.page)
	row, code := e.climb(w.steps, e.row(w.leaf), was)
	if code != api.OK {
		return 0, code
	}
	return e.finish(row)
}

// climb: what stands in place of the root, when a row stands in place of what the steps led to, which was so long. Sum, Malformed.
func (e *edit) climb(steps []step, row *node.Branch, was int) (*node.Branch, api.Code) {
	for i, s := range slices.Backward(steps) {
		length := s.branch.Len()
		replace(s.branch, s.at, row)
		if !e.isAsLong(row, was) {
			if code := e.joinFrom(s.branch, s.at-1, s.at+len(row.Kids), i+1); code != api.OK {
				return nil, code
			}
		}
		e.leave(s.page)
		row, was = e.row(s.branch), length
	}
	return row, api.OK
}

// isAsLong: whether a row is one node, not shorter than what it stands in place of: then it fits into one node with none of those beside it, as that didn't.
func (e *edit) isAsLong(row *node.Branch, was int) bool {
	return len(row.Kids) == 1 && e.made[^row.Kids[0]].Len() >= was
}

// row: a node of whatever length as a row that may be: of none, if it is empty; of two, and the key between them, if it is too long.
func (e *edit) row(n node.Node) *node.Branch {
	if isEmpty(n) {
		return &node.Branch{}
	}
	if fits(n) {
		return &node.Branch{Kids: []int{e.add(n)}}
	}
	left, key, right := halves(n)
	return &node.Branch{Keys: [][]byte{key}, Kids: []int{e.add(left), e.add(right)}}
}

// joinFrom: the kids of a branch from one to another are joined with those behind them, where they fit into one node. Kids that there aren't are left out. Sum, Malformed.
func (e *edit) joinFrom(b *node.Branch, from, to, depth int) api.Code {
	from, to = max(from, 0), min(to, len(b.Kids)-1)
	for range to - from {
		joined, code := e.join(b, from, depth)
		if code != api.OK {
			return code
		}
		if !joined {
			from++
		}
	}
	return api.OK
}

// join: whether a kid of a branch, so far from the root, and the one behind it fit into one node, which they are then. Sum, Malformed.
func (e *edit) join(b *node.Branch, at, depth int) (bool, api.Code) {
	left, code := e.node(b.Kids[at], depth)
	if code != api.OK {
		return false, code
	}
	right, code := e.node(b.Kids[at+1], depth)
	if code != api.OK {
		return false, code
	}
	whole := together(left, b.Keys[at], right)
	if !fits(whole) {
		return false, api.OK
	}
	if l, ok := left.(*node.Branch); ok {
		// The last kid of the one and the first of the other are side by side only now.
		if _, code := e.join(whole.(*node.Branch), len(l.Kids)-1, depth+1); code != api.OK {
			return false, code
		}
	}
	e.leave(b.Kids[at])
	e.leave(b.Kids[at+1])
	b.Kids = slices.Replace(b.Kids, at, at+2, e.add(whole))
	b.Keys = slices.Delete(b.Keys, at, at+1)
	return true, api.OK
}

// finish: a row in place of the root becomes the tree, whose root's page this is. Full, Sum, Malformed.
func (e *edit) finish(row *node.Branch) (int, api.Code) {
	top, code := e.top(row)
	if code != api.OK {
		return 0, code
	}
	root, code := e.put(top)
	if code != api.OK {
		return 0, code
	}
	for _, no := range e.gone {
		e.pager.Drop(no)
	}
	return root, api.OK
}

// top: the number of the root above a row; 0 of none. Sum, Malformed.
func (e *edit) top(row *node.Branch) (int, api.Code) {
	switch len(row.Kids) {
	case 0:
		return 0, api.OK
	case 1:
		return e.topBelow(row.Kids[0])
	}
	return e.add(row), api.OK
}

// topBelow: the first node from a root down that has more below it than one kid alone. Sum, Malformed.
func (e *edit) topBelow(no int) (int, api.Code) {
	for depth := 0; ; depth++ {
		n, code := e.node(no, depth)
		if code != api.OK {
			return 0, code
		}
		if !isOverOne(n) {
			return no, api.OK
		}
		e.leave(no)
		no = n.(*node.Branch).Kids[0]
	}
}

// put: the page of a node, which is put with all below it, as far as they have none yet. Full, Malformed.
func (e *edit) put(no int) (int, api.Code) {
	if no >= 0 {
		return no, api.OK
	}
	n := e.made[^no]
	if b, ok := n.(*node.Branch); ok {
		for i := range b.Kids {
			page, code := e.put(b.Kids[i])
			if code != api.OK {
				return 0, code
			}
			b.Kids[i] = page
		}
	}
	pay := n.Pay()
	if pay == nil {
		// Its keys don't rise: those below the kids of a branch weren't between its keys.
		return 0, api.Malformed
	}
	return e.pager.Put(pay)
}

// add: a new node's number.
func (e *edit) add(n node.Node) int {
	e.made = append(e.made, n)
	return ^(len(e.made) - 1)
}

// node: the node of a number, so far from the root. Sum, Malformed.
func (e *edit) node(no, depth int) (node.Node, api.Code) {
	if no < 0 {
		return e.made[^no], api.OK
	}
	n, code := e.pager.Node(no)
	if code != api.OK {
		return nil, code
	}
	if _, ok := n.(*node.Leaf); ok != (depth == e.depth) {
		return nil, api.Malformed
	}
	return n, api.OK
}

// leave: the page of a number isn't needed any more, if it has one.
func (e *edit) leave(no int) {
	if no > 0 {
		e.gone = append(e.gone, no)
	}
}

// leaveChain: the pages of a cell's chain aren't needed any more, if it has one. Sum, Malformed.
func (e *edit) leaveChain(c node.Cell) api.Code {
	if !inChain(c) {
		return api.OK
	}
	_, pages, code := e.pager.Chain(c.Head, c.Size)
	e.gone = append(e.gone, pages...)
	return code
}

// replace: in place of a branch's kid stands a row.
func replace(b *node.Branch, at int, row *node.Branch) {
	b.Kids = slices.Replace(b.Kids, at, at+1, row.Kids...)
	if len(row.Kids) > 0 {
		b.Keys = slices.Insert(b.Keys, at, row.Keys...)
		return
	}
	if len(b.Keys) > 0 {
		// With a kid goes the key ahead of it, and with the first one that behind it.
		ahead := max(at-1, 0)
		b.Keys = slices.Delete(b.Keys, ahead, ahead+1)
	}
}

// halves: a node that is too long as two, and the key between them. The left one ends where half of the node is reached, so that a cell, or a key, is the most that either is longer than that.
func halves(n node.Node) (node.Node, []byte, node.Node) {
	half := n.Len() / 2
	if l, ok := n.(*node.Leaf); ok {
		at := sort.Search(len(l.Cells), func(at int) bool {
			return (&node.Leaf{Cells: l.Cells[:at]}).Len() >= half
		})
		return &node.Leaf{Cells: l.Cells[:at]}, l.Cells[at].Key, &node.Leaf{Cells: l.Cells[at:]}
	}
	b := n.(*node.Branch)
	at := sort.Search(len(b.Keys), func(at int) bool {
		return (&node.Branch{Keys: b.Keys[:at+1]}).Len() >= half
	})
	left := &node.Branch{Keys: b.Keys[:at], Kids: b.Kids[:at+1]}
	right := &node.Branch{Keys: b.Keys[at+1:], Kids: b.Kids[at+1:]}
	return left, b.Keys[at], right
}
