package node

import (
	"bytes"

	"cambium/api"
)

// Link: what a chain's page says.
func Link(next int, b []byte) []byte {
	if len(b) == 0 || len(b) > api.ChainLen || next < 0 || next > mostNo {
		return nil
	}
	out := putNumber(nil, next, noWidth)
	out = putNumber(out, len(b), valueWidth)
	return append(out, b...)
}

// FromLink: the next page, and the bytes that a chain's page says. Malformed.
func FromLink(b []byte) (int, []byte, api.Code) {
	if len(b) != api.PayLen {
		return 0, nil, api.Malformed
	}
	r := &reader{rest: b}
	next := r.number(noWidth)
	part := r.take(r.number(valueWidth))
	if !saysJust(b, Link(next, part)) {
		return 0, nil, api.Malformed
	}
	return next, bytes.Clone(part), api.OK
}
