package pager

import (
	"iter"

	"cambium/api"
	"cambium/node"
)

// PutChain: a value in a chain. Arg, Full.
func (p *Pager) PutChain(val []byte) (int, api.Code) {
	if len(val) == 0 || len(val) > api.MaxVal {
		return 0, api.Arg
	}
	next := 0
	var put []int
	for part := range fromEnd(val) {
		no, code := p.Put(node.Link(next, part))
		if code != api.OK {
			p.dropAll(put)
			return 0, code
		}
		put = append(put, no)
		next = no
	}
	return next, api.OK
}

// Chain: a chain's bytes, and its pages. Sum, Malformed.
func (p *Pager) Chain(head, size int) ([]byte, []int, api.Code) {
	var val []byte
	var pages []int
	// Of more pages than there may be, one would be there twice: such a chain leads to itself, and would go on till any size.
	most := min(pagesFor(size), api.MaxPages)
	for no := head; no != 0; {
		if len(val) >= size || len(pages) >= most {
			return nil, nil, api.Malformed
		}
		next, part, code := p.link(no)
		if code != api.OK {
			return nil, nil, code
		}
		val = append(val, part...)
		pages = append(pages, no)
		no = next
	}
	if len(val) != size {
		return nil, nil, api.Malformed
	}
	return val, pages, api.OK
}

// DropChain: a chain isn't needed any more. Sum, Malformed.
func (p *Pager) DropChain(head, size int) api.Code {
	_, pages, code := p.Chain(head, size)
	if code != api.OK {
		return code
	}
	p.dropAll(pages)
	return api.OK
}

// dropAll: these pages are dropped.
func (p *Pager) dropAll(pages []int) {
	for _, no := range pages {
		p.Drop(no)
	}
}

// link: the page behind a chain's page, and the bytes that it has. Sum, Malformed.
func (p *Pager) link(no int) (int, []byte, api.Code) {
	says, code := p.Read(no)
	if code != api.OK {
		return 0, nil, code
	}
	return node.FromLink(says)
}

// fromEnd: the parts of a value that the pages of its chain have. The last one comes first, since each page but that says the number of the one behind it.
func fromEnd(val []byte) iter.Seq[[]byte] {
	return func(yield func(part []byte) bool) {
		end := len(val)
		for count := pagesFor(len(val)); count > 0; count-- {
			start := (count - 1) * api.ChainLen
			if !yield(val[start:end]) {
				return
			}
			end = start
		}
	}
}

// pagesFor: how many pages a chain of so many bytes needs.
func pagesFor(size int) int {
	if size < 1 {
		return 0
	}
	// Rounded up without a sum that could leave its bits.
	return (size-1)/api.ChainLen + 1
}
