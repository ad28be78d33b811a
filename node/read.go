package node

import (
	"bytes"

	"cambium/api"
	"cambium/num"
)

// FromPay: the node that a page says. Malformed.
func FromPay(b []byte) (Node, api.Code) {
	if len(b) != api.PayLen {
		return nil, api.Malformed
	}
	n := nodeOf(b)
	if n == nil || !saysJust(b, n.Pay()) {
		return nil, api.Malformed
	}
	return n, api.OK
}

// nodeOf: the only node of which bytes may be what its page says, if they are; nil, if they begin as no node's.
func nodeOf(b []byte) Node {
	r := &reader{rest: bytes.Clone(b)}
	switch r.number(markWidth) {
	case leafMark:
		return r.leaf()
	case branchMark:
		return r.branch()
	}
	return nil
}

// saysJust: whether a page's bytes are these, and then 0. Of what may not be told there are none.
func saysJust(b, told []byte) bool {
	return len(told) > 0 && bytes.HasPrefix(b, told) && bytes.Equal(b[len(told):], make([]byte, len(b)-len(told)))
}

// reader is the bytes of a page that aren't read yet. What is beyond their end is read as nothing and 0; that they ended too early shows when what was read is held against them.
type reader struct{ rest []byte }

// take: the next bytes, so many; none, and none are left, if there are fewer. A part ends where its room ends, so that nothing put behind it touches the next one.
func (r *reader) take(n int) []byte {
	if n > len(r.rest) {
		r.rest = nil
		return nil
	}
	part := r.rest[:n:n]
	r.rest = r.rest[n:]
	return part
}

// number: the number of the next bytes.
func (r *reader) number(width int) int {
	// Layer 1 reads four bytes, and those that there aren't as 0 at the end, where the shift drops them.
	return int(num.Get32(r.take(width)) >> (8 * (wordWidth - width)))
}

// key: the next key.
func (r *reader) key() []byte {
	return r.take(r.number(keyWidth))
}

// leaf: the leaf behind its mark.
func (r *reader) leaf() *Leaf {
	l := &Leaf{}
	for left := r.number(countWidth); left > 0 && !r.ended(); left-- {
		l.Cells = append(l.Cells, r.cell())
	}
	return l
}

// cell: the next cell.
func (r *reader) cell() Cell {
	c := Cell{Key: r.key()}
	size := r.number(valueWidth)
	if size <= api.MaxInline {
		c.Inline = r.take(size)
		return c
	}
	c.Size = size
	c.Head = r.number(noWidth)
	r.take(gapWidth)
	return c
}

// branch: the branch behind its mark.
func (r *reader) branch() *Branch {
	b := &Branch{}
	left := r.number(countWidth)
	b.Kids = append(b.Kids, r.number(noWidth))
	for ; left > 0 && !r.ended(); left-- {
		b.Keys = append(b.Keys, r.key())
		b.Kids = append(b.Kids, r.number(noWidth))
	}
	return b
}

// ended: whether all is read. A page may say that it has more cells, or keys, than there is room for: those aren't gone through.
func (r *reader) ended() bool {
	return len(r.rest) == 0
}
