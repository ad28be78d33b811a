package tree

import (
	"slices"

	"cambium/api"
	"cambium/node"
)

// isTight: whether a node is as those of a tight tree are, wherever they stand.
func isTight(n node.Node, kids []node.Node) bool {
	b, ok := n.(*node.Branch)
	if !ok {
		return !isEmpty(n)
	}
	for at, key := range b.Keys {
		if fits(together(kids[at], key, kids[at+1])) {
			return false
		}
	}
	return true
}

// together: two nodes as one, however long that is; the key is the one that stands between them. They are of one kind, as all that are as far from the root.
func together(left node.Node, key []byte, right node.Node) node.Node {
	if l, ok := left.(*node.Leaf); ok {
		return &node.Leaf{Cells: slices.Concat(l.Cells, right.(*node.Leaf).Cells)}
	}
	l, r := left.(*node.Branch), right.(*node.Branch)
	return &node.Branch{
		Keys: slices.Concat(l.Keys, [][]byte{key}, r.Keys),
		Kids: slices.Concat(l.Kids, r.Kids),
	}
}

// fits: whether a page has room for a node.
func fits(n node.Node) bool {
	return n.Len() <= api.PayLen
}

// isEmpty: whether a node has nothing in it.
func isEmpty(n node.Node) bool {
	if l, ok := n.(*node.Leaf); ok {
		return len(l.Cells) == 0
	}
	return len(n.(*node.Branch).Kids) == 0
}

// isOverOne: whether a node is a branch with one kid alone.
func isOverOne(n node.Node) bool {
	b, ok := n.(*node.Branch)
	return ok && len(b.Kids) == 1
}
