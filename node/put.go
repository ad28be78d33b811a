package node

import "cambium/num"

const wordWidth = 4 // bytes of the numbers that layer 1 puts and gets

// begin: how a node's page begins, with room for all that it says.
func begin(mark, count, length int) []byte {
	out := make([]byte, 0, length)
	out = putNumber(out, mark, markWidth)
	return putNumber(out, count, countWidth)
}

// putCell: a cell behind what is said already.
func putCell(out []byte, c Cell) []byte {
	out = putKey(out, c.Key)
	if c.inChain() {
		out = putNumber(out, c.Size, valueWidth)
		out = putNumber(out, c.Head, noWidth)
		return putNumber(out, 0, gapWidth)
	}
	out = putNumber(out, len(c.Inline), valueWidth)
	return append(out, c.Inline...)
}

// putKey: how long a key is, and it, behind what is said already.
func putKey(out, key []byte) []byte {
	out = putNumber(out, len(key), keyWidth)
	return append(out, key...)
}

// putNumber: so many bytes of a number behind what is said already.
func putNumber(out []byte, v, width int) []byte {
	return append(out, num.Put32(uint32(v))[wordWidth-width:]...)
}
