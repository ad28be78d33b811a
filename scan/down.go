package scan

import (
	"bytes"
	"slices"

	"cambium/api"
	"cambium/node"
)

// each: does something with each item that comes and is below a key, if that isn't empty, as long as it asks for more; the scan stands behind those then. Sum, Malformed.
func (s *Scan) each(to []byte, more func(x api.Item) bool) api.Code {
	for {
		c, ok, code := s.ahead()
		// What isn't below the key isn't asked for, so that its value isn't read.
		if !ok || len(to) > 0 && bytes.Compare(c.Key, to) >= 0 {
			return code
		}
		x, code := s.pass(c)
		if code != api.OK {
			return code
		}
		if !more(x) {
			return api.OK
		}
	}
}

// ahead: the cell ahead of which the scan stands; none at the end. Sum, Malformed.
func (s *Scan) ahead() (node.Cell, bool, api.Code) {
	for len(s.cells) == 0 {
		if len(s.pages) == 0 {
			return node.Cell{}, false, api.OK
		}
		if code := s.down(nil); code != api.OK {
			return node.Cell{}, false, code
		}
	}
	c := s.cells[0]
	if bytes.Compare(c.Key, s.least) < 0 {
		return node.Cell{}, false, api.Malformed
	}
	return c, true, api.OK
}

// pass: the item of the cell ahead, behind which the scan stands then. Sum, Malformed.
func (s *Scan) pass(c node.Cell) (api.Item, api.Code) {
	x := api.Item{Key: c.Key, Val: c.Inline}
	if c.Size > 0 {
		val, _, code := s.pager.Chain(c.Head, c.Size)
		if code != api.OK {
			return api.Item{}, code
		}
		x.Val = val
	}
	s.cells = s.cells[1:]
	s.least = After(c.Key)
	return x, api.OK
}

// down: goes down to a leaf from the page that comes, by what may have keys from one on. Sum, Malformed.
func (s *Scan) down(key []byte) api.Code {
	for {
		n, code := s.read()
		if code != api.OK {
			return code
		}
		b, ok := n.(*node.Branch)
		if !ok {
			l := n.(*node.Leaf)
			s.cells = l.Cells[placeOf(l, key):]
			return api.OK
		}
		for _, no := range slices.Backward(b.Kids[kidFor(b, key):]) {
			s.pages = append(s.pages, no)
		}
	}
}

// read: the node of the page that comes, which is gone to no more then. Sum, Malformed.
func (s *Scan) read() (node.Node, api.Code) {
	last := len(s.pages) - 1
	no := s.pages[last]
	// What is below a page that is reached again would be told twice, or for ever.
	if _, ok := s.reached[no]; ok {
		return nil, api.Malformed
	}
	n, code := s.pager.Node(no)
	if code != api.OK {
		return nil, code
	}
	s.reached[no] = struct{}{}
	s.pages = s.pages[:last]
	return n, api.OK
}

// kidFor: which kid of a branch a key belongs below.
func kidFor(b *node.Branch, key []byte) int {
	at, found := slices.BinarySearchFunc(b.Keys, key, bytes.Compare)
	if found {
		// What is below the kid behind a key is at least that key.
		return at + 1
	}
	return at
}

// placeOf: where in a leaf the first cell stands whose key is at least one.
func placeOf(l *node.Leaf, key []byte) int {
	at, _ := slices.BinarySearchFunc(l.Cells, key, func(c node.Cell, key []byte) int {
		return bytes.Compare(c.Key, key)
	})
	return at
}
