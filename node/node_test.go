package node_test

import (
	"bytes"
	"encoding/binary"
	"math"
	"math/rand"
	"slices"
	"strings"
	"testing"

	"cambium/api"
	"cambium/node"
)

// Both kinds are nodes.
var _ = []node.Node{&node.Leaf{}, &node.Branch{}}

// inline: a cell whose value stands in the leaf.
func inline(key, val string) node.Cell {
	return node.Cell{Key: []byte(key), Inline: []byte(val)}
}

// chained: a cell whose value stands in a chain.
func chained(key string, size, head int) node.Cell {
	return node.Cell{Key: []byte(key), Size: size, Head: head}
}

// leaf: a leaf of these cells.
func leaf(cells ...node.Cell) *node.Leaf { return &node.Leaf{Cells: cells} }

// branch: a branch of these kids, with these keys between them.
func branch(kids []int, keys ...string) *node.Branch {
	b := &node.Branch{Kids: kids}
	for _, key := range keys {
		b.Keys = append(b.Keys, []byte(key))
	}
	return b
}

// long: n bytes that aren't all the same, and end with another one than 0.
func long(n int) string {
	out := make([]byte, n)
	for i := range out {
		out[i] = byte(i*7 + n)
	}
	if n > 0 {
		out[n-1] |= 1
	}
	return string(out)
}

// kidsFrom: n kids from a page on.
func kidsFrom(no, n int) []int {
	var out []int
	for i := range n {
		out = append(out, no+i)
	}
	return out
}

// plainLen: how long a node is, by the chapter's words.
func plainLen(n node.Node) int {
	length := 0
	switch x := n.(type) {
	case *node.Leaf:
		length = 3
		for _, c := range x.Cells {
			length += 3 + len(c.Key)
			if c.Size != 0 {
				length += 6
			} else {
				length += len(c.Inline)
			}
		}
	case *node.Branch:
		length = 7
		for _, key := range x.Keys {
			length += 5 + len(key)
		}
	}
	return length
}

// plainMay: whether a node may be, by the chapter's words.
func plainMay(n node.Node) bool {
	var keys []string
	switch x := n.(type) {
	case *node.Leaf:
		for _, c := range x.Cells {
			keys = append(keys, string(c.Key))
			here := c.Size == 0 && c.Head == 0 && len(c.Inline) < 201
			there := c.Size > 200 && c.Size < 16385 && plainPage(c.Head) && len(c.Inline) == 0
			if !here && !there {
				return false
			}
		}
	case *node.Branch:
		for _, key := range x.Keys {
			keys = append(keys, string(key))
		}
		if len(x.Kids) == 0 || len(x.Kids)-len(keys) != 1 || slices.ContainsFunc(x.Kids, func(no int) bool { return !plainPage(no) }) {
			return false
		}
	}
	for i, key := range keys {
		if key == "" || len(key) > 100 || i > 0 && key <= keys[i-1] {
			return false
		}
	}
	return plainLen(n) < 1017
}

// plainPage: whether a page's number may be told in a node.
func plainPage(no int) bool { return no > 1 && no < 1<<31 }

// plainSays: what a node's page says, be it one that may be or not, with what of its numbers has room.
func plainSays(n node.Node) []byte {
	var out []byte
	switch x := n.(type) {
	case *node.Leaf:
		out = binary.BigEndian.AppendUint16([]byte{1}, uint16(len(x.Cells)))
		for _, c := range x.Cells {
			out = append(append(out, byte(len(c.Key))), c.Key...)
			if c.Size != 0 {
				out = binary.BigEndian.AppendUint16(out, uint16(c.Size))
				out = binary.BigEndian.AppendUint32(out, uint32(c.Head))
				out = append(out, 0, 0)
			} else {
				out = binary.BigEndian.AppendUint16(out, uint16(len(c.Inline)))
				out = append(out, c.Inline...)
			}
		}
	case *node.Branch:
		out = binary.BigEndian.AppendUint16([]byte{2}, uint16(len(x.Keys)))
		for i, no := range x.Kids {
			if i > 0 && i <= len(x.Keys) {
				out = append(append(out, byte(len(x.Keys[i-1]))), x.Keys[i-1]...)
			}
			out = binary.BigEndian.AppendUint32(out, uint32(no))
		}
	}
	return out
}

// plainRead: the node that a page says, by places; nil, if there is none.
func plainRead(b []byte) node.Node {
	if len(b) != 1016 || b[0] != 1 && b[0] != 2 {
		return nil
	}
	wide := append(bytes.Clone(b), make([]byte, 70000)...) // so that no place is beyond it
	count, at := int(b[1])*256+int(b[2]), 3
	var n node.Node
	if b[0] == 1 {
		l := &node.Leaf{}
		for i := 0; i < count && at < 1016; i++ {
			var c node.Cell
			k := int(wide[at])
			c.Key = wide[at+1 : at+1+k]
			at += 1 + k
			size := int(wide[at])*256 + int(wide[at+1])
			at += 2
			if size > 200 {
				c.Size, c.Head = size, int(binary.BigEndian.Uint32(wide[at:]))
				at += 6
			} else {
				c.Inline = wide[at : at+size]
				at += size
			}
			l.Cells = append(l.Cells, c)
		}
		n = l
	} else {
		x := &node.Branch{Kids: []int{int(binary.BigEndian.Uint32(wide[3:]))}}
		at = 7
		for i := 0; i < count && at < 1016; i++ {
			k := int(wide[at])
			x.Keys = append(x.Keys, wide[at+1:at+1+k])
			x.Kids = append(x.Kids, int(binary.BigEndian.Uint32(wide[at+1+k:])))
			at += 5 + k
		}
		n = x
	}
	if at > 1016 || !plainMay(n) || !bytes.Equal(filled(plainSays(n)), b) {
		return nil
	}
	return n
}

// filled: bytes, and 0 behind them, as many as a page has.
func filled(b []byte) []byte {
	return append(bytes.Clone(b), make([]byte, 1016-len(b))...)
}

// same: whether two nodes are of one kind and have the same parts.
func same(a, b node.Node) bool {
	switch x := a.(type) {
	case *node.Leaf:
		y, ok := b.(*node.Leaf)
		return ok && slices.EqualFunc(x.Cells, y.Cells, func(c, d node.Cell) bool {
			return bytes.Equal(c.Key, d.Key) && bytes.Equal(c.Inline, d.Inline) && c.Size == d.Size && c.Head == d.Head
		})
	case *node.Branch:
		y, ok := b.(*node.Branch)
		return ok && slices.Equal(x.Kids, y.Kids) && slices.EqualFunc(x.Keys, y.Keys, bytes.Equal)
	}
	return a == nil && b == nil
}

// mustTell: the node may be, is that long, tells this, and is read again.
func mustTell(t *testing.T, what string, n node.Node, says []byte) {
	t.Helper()
	if got := n.Len(); got != len(says) {
		t.Errorf("P8.1: %s: Len %d, not %d", what, got, len(says))
	}
	if !n.May() {
		t.Errorf("P8.1: %s: may not be", what)
	}
	if got := n.Pay(); !bytes.Equal(got, says) {
		t.Errorf("P8.1: %s: Pay % X, not % X", what, got, says)
	}
	mustRead(t, what, filled(says), n)
}

// mustBe: likewise, with what the chapter's words say of it.
func mustBe(t *testing.T, what string, n node.Node) {
	t.Helper()
	mustTell(t, what, n, plainSays(n))
}

// mustNotBe: the node is that long, but may not be, and tells nothing.
func mustNotBe(t *testing.T, what string, n node.Node, length int) {
	t.Helper()
	if got := n.Len(); got != length {
		t.Errorf("P8.1: %s: Len %d, not %d", what, got, length)
	}
	if n.May() {
		t.Errorf("P8.1: %s: may be", what)
	}
	if got := n.Pay(); got != nil {
		t.Errorf("P8.1: %s: Pay % X, not none", what, got)
	}
}

// mustNotBeOrBeRead: likewise, and what its page would say is no node's.
func mustNotBeOrBeRead(t *testing.T, what string, n node.Node) {
	t.Helper()
	mustNotBe(t, what, n, plainLen(n))
	mustBeMalformed(t, what, filled(plainSays(n)))
}

// mustRead: FromPay tells this node.
func mustRead(t *testing.T, what string, b []byte, want node.Node) {
	t.Helper()
	if n, e := node.FromPay(b); e != api.OK || !same(n, want) {
		t.Errorf("P8.1: FromPay of %s: %v and code %d, not %v", what, n, e, want)
	}
}

// mustBeMalformed: FromPay refuses it.
func mustBeMalformed(t *testing.T, what string, b []byte) {
	t.Helper()
	if n, e := node.FromPay(b); e != api.Malformed || n != nil {
		t.Errorf("P8.1: FromPay of %s: %v and code %d, not none and Malformed", what, n, e)
	}
}

// mustAgree: FromPay tells what the chapter's words make of it; whether it told a node.
func mustAgree(t *testing.T, what string, b []byte) bool {
	t.Helper()
	want := plainRead(b)
	if want == nil {
		mustBeMalformed(t, what, b)
		return false
	}
	mustRead(t, what, b, want)
	return true
}

func TestTheChaptersExamples(t *testing.T) { // P8.1
	mustTell(t, "a leaf without cells", leaf(), []byte{1, 0, 0})
	mustTell(t, "a leaf of an empty list", &node.Leaf{Cells: []node.Cell{}}, []byte{1, 0, 0})
	mustTell(t, "a branch of the kid 7", branch([]int{7}), []byte{2, 0, 0, 0, 0, 0, 7})
	mustTell(t, "a branch of an empty list of keys", &node.Branch{Keys: [][]byte{}, Kids: []int{7}}, []byte{2, 0, 0, 0, 0, 0, 7})
}

func TestOrdinaryLeaves(t *testing.T) { // P8.1
	mustTell(t, "one cell", leaf(inline("key", "value")), []byte("\x01\x00\x01\x03key\x00\x05value"))
	mustTell(t, "an empty value", leaf(inline("k", "")), []byte("\x01\x00\x01\x01k\x00\x00"))
	mustTell(t, "no value", leaf(node.Cell{Key: []byte("k")}), []byte("\x01\x00\x01\x01k\x00\x00"))
	mustTell(t, "a value in a chain", leaf(chained("k", 300, 9)), []byte("\x01\x00\x01\x01k\x01\x2c\x00\x00\x00\x09\x00\x00"))
	mustTell(t, "an empty list beside a chain", leaf(node.Cell{Key: []byte("k"), Inline: []byte{}, Size: 300, Head: 9}), []byte("\x01\x00\x01\x01k\x01\x2c\x00\x00\x00\x09\x00\x00"))
	mustTell(t, "a head of all bytes", leaf(chained("k", 0x3fed, 0x12345678)), []byte("\x01\x00\x01\x01k\x3f\xed\x12\x34\x56\x78\x00\x00"))
	mustTell(t, "both kinds", leaf(inline("a", "x"), chained("b", 201, 2), inline("c", "")),
		[]byte("\x01\x00\x03\x01a\x00\x01x\x01b\x00\xc9\x00\x00\x00\x02\x00\x00\x01c\x00\x00"))
	mustTell(t, "bytes 0", leaf(inline("\x00", "\x00\x00"), inline("\x00\x00", "\x00")),
		[]byte("\x01\x00\x02\x01\x00\x00\x02\x00\x00\x02\x00\x00\x00\x01\x00"))
}

func TestOrdinaryBranches(t *testing.T) { // P8.1
	mustTell(t, "two kids", branch([]int{3, 4}, "m"), []byte("\x02\x00\x01\x00\x00\x00\x03\x01m\x00\x00\x00\x04"))
	mustTell(t, "kids that fall", branch([]int{9, 5, 0x01020304}, "key", "mark"),
		[]byte("\x02\x00\x02\x00\x00\x00\x09\x03key\x00\x00\x00\x05\x04mark\x01\x02\x03\x04"))
	mustTell(t, "one kid twice", branch([]int{5, 5}, "m"), []byte("\x02\x00\x01\x00\x00\x00\x05\x01m\x00\x00\x00\x05"))
}

func TestHowLongKeysMayBe(t *testing.T) { // P8.1
	for n := range 105 {
		key := long(n)
		for what, x := range map[string]node.Node{
			"a leaf's key":      leaf(inline(key, "v")),
			"a leaf's last key": leaf(inline("\x00", "v"), inline("\xff"+key, "w")),
			"a chain's key":     leaf(chained(key, 500, 7)),
			"a branch's key":    branch([]int{2, 3}, key),
		} {
			most := 100
			if what == "a leaf's last key" {
				most = 99
			}
			if n <= most && (n > 0 || most == 99) {
				mustBe(t, what, x)
			} else {
				mustNotBeOrBeRead(t, what, x)
			}
		}
	}
	for _, n := range []int{255, 256, 257, 300, 356, 1000, 65537} {
		mustNotBe(t, "a leaf's great key", leaf(inline(long(n), "")), 6+n)
		mustNotBe(t, "a branch's great key", branch([]int{2, 3}, long(n)), 12+n)
	}
	mustNotBeOrBeRead(t, "a first key that is empty", leaf(inline("", ""), inline("a", "")))
	mustNotBeOrBeRead(t, "a last key that is empty", leaf(inline("a", ""), inline("", "")))
	mustNotBeOrBeRead(t, "a branch's first key that is empty", branch([]int{2, 3, 4}, "", "a"))
	mustNotBeOrBeRead(t, "a branch's last key that is empty", branch([]int{2, 3, 4}, "a", ""))
}

func TestHowLongInlineValuesMayBe(t *testing.T) { // P8.1
	for n := range 201 {
		mustBe(t, "a value in its leaf", leaf(inline("a", "v"), inline("k", long(n)), inline("z", "v")))
	}
	for _, n := range []int{201, 202, 255, 256, 456, 800, 1010, 1100, 65536, 65737} {
		mustNotBe(t, "a value that is too long for its leaf", leaf(inline("k", long(n))), 7+n)
		mustNotBe(t, "such a value behind another one", leaf(inline("a", ""), inline("k", long(n))), 11+n)
	}
	// Its length would be read as a chain's size.
	mustBeMalformed(t, "201 bytes in their leaf", filled(plainSays(leaf(inline("k", long(201))))))
}

func TestSizesOfChains(t *testing.T) { // P8.1
	for _, size := range []int{201, 202, 255, 256, 257, 1010, 1011, 4096, 16383, 16384} {
		mustBe(t, "a chain of a size that may be", leaf(chained("k", size, 9)))
	}
	for _, size := range []int{16385, 16640, 32767, 32768, 65535} {
		mustNotBeOrBeRead(t, "a chain that is too long", leaf(chained("k", size, 9)))
		mustNotBeOrBeRead(t, "such a chain behind another cell", leaf(inline("a", ""), chained("k", size, 9)))
	}
	for _, size := range []int{math.MinInt, -1 << 32, -16384, -300, -1, 1, 2, 199, 200, 65536 + 201, 1<<32 + 201, math.MinInt + 300, math.MaxInt} {
		mustNotBe(t, "a size that no chain has", leaf(chained("k", size, 9)), 13)
		mustNotBe(t, "such a size behind another cell", leaf(inline("a", ""), chained("k", size, 9)), 17)
		mustNotBe(t, "such a size without a head", leaf(chained("k", size, 0)), 13)
	}
	// A size of 0 says that there is no chain.
	mustBe(t, "a size of 0", leaf(chained("k", 0, 0)))
	// A size of at most 200 is as many bytes in the leaf, not a chain.
	for _, size := range []int{7, 199, 200} {
		says := filled(plainSays(leaf(chained("k", size, 0x01020304))))
		mustRead(t, "a size of the leaf's own", says, leaf(inline("k", "\x01\x02\x03\x04"+string(make([]byte, size-4)))))
	}
	mustBeMalformed(t, "a size of the leaf's own, and bytes behind it", filled(plainSays(leaf(chained("k", 1, 0x01020304)))))
}

func TestCellsWithSomethingOfBoth(t *testing.T) { // P8.1
	for _, size := range []int{-1, 1, 200, 201, 300, 16384, 16385} {
		for _, n := range []int{1, 200, 201, 500} {
			c := node.Cell{Key: []byte("k"), Inline: []byte(long(n)), Size: size, Head: 9}
			mustNotBe(t, "bytes of its own and a size", leaf(c), 13)
			mustNotBe(t, "bytes of its own and a size, behind", leaf(inline("a", "vw"), c), 19)
			c.Head = 0
			mustNotBe(t, "bytes of its own and a size, no head", leaf(c), 13)
		}
	}
	// What is told is read again: a head without a size couldn't be.
	for _, head := range []int{-1, 1, 2, 9, 1<<31 - 1, 1 << 31} {
		mustNotBe(t, "a head without a size", leaf(node.Cell{Key: []byte("k"), Inline: []byte("v"), Head: head}), 8)
		mustNotBe(t, "a head without a size and bytes", leaf(node.Cell{Key: []byte("k"), Head: head}), 7)
	}
}

func TestHeadsAndKids(t *testing.T) { // P8.1
	for _, no := range []int{2, 3, 255, 256, 2047, 2048, 65536, 1 << 24, 1<<31 - 2, 1<<31 - 1} {
		mustBe(t, "a head that may be", leaf(chained("k", 300, no)))
		mustBe(t, "a kid that may be", branch([]int{no}))
		mustBe(t, "two kids that may be", branch([]int{2, no}, "k"))
		mustBe(t, "three kids that may be", branch([]int{no, 9, no}, "k", "l"))
	}
	for _, no := range []int{-1, 0, 1, 1 << 31, 1<<31 + 2, 1<<32 - 1} {
		mustNotBeOrBeRead(t, "a head that may not be", leaf(chained("k", 300, no)))
		mustNotBeOrBeRead(t, "a last head that may not be", leaf(chained("k", 300, 2), chained("l", 300, no)))
		mustNotBeOrBeRead(t, "a first head that may not be", leaf(chained("k", 300, no), chained("l", 300, 2)))
		mustNotBeOrBeRead(t, "a kid that may not be", branch([]int{no}))
		mustNotBeOrBeRead(t, "a first kid that may not be", branch([]int{no, 2, 3}, "k", "l"))
		mustNotBeOrBeRead(t, "a kid in the midst that may not be", branch([]int{2, no, 3}, "k", "l"))
		mustNotBeOrBeRead(t, "a last kid that may not be", branch([]int{2, 3, no}, "k", "l"))
	}
	// These look right in their least 32 bits.
	for _, no := range []int{math.MinInt, math.MinInt + 2, -1 << 32, -1<<32 + 2, 1 << 32, 1<<32 + 2, 1<<33 + 9, math.MaxInt} {
		mustNotBe(t, "a head beyond its bytes", leaf(chained("k", 300, no)), 13)
		mustNotBe(t, "a kid beyond its bytes", branch([]int{no}), 7)
		mustNotBe(t, "a last kid beyond its bytes", branch([]int{2, no}, "k"), 13)
	}
}

func TestKeysRise(t *testing.T) { // P8.1
	rows := []string{"\x00", "\x00\x00", "\x00\x01", "\x01", "A", "B", "a", "a\x00", "a\x00\x00", "a\x01", "aa", "ab", "b", "\x7f", "\x80", "\x80\x00", "\xff", "\xff\x00", "\xff\xff"}
	for i, a := range rows {
		for j, b := range rows {
			for what, n := range map[string]node.Node{
				"a leaf":                    leaf(inline(a, "x"), inline(b, "y")),
				"a leaf of chains":          leaf(chained(a, 300, 7), chained(b, 400, 8)),
				"a leaf of both":            leaf(inline(a, "x"), chained(b, 400, 8)),
				"a branch":                  branch([]int{2, 3, 4}, a, b),
				"a branch with one behind":  branch([]int{2, 3, 4, 5}, a, b, "\xff\xff\xff"),
				"a leaf with one behind":    leaf(inline(a, "x"), inline(b, "y"), inline("\xff\xff\xff", "")),
				"a leaf with two behind":    leaf(inline(a, "x"), inline(b, "y"), inline("\xff\xff\xff", ""), inline("\xff\xff\xff\x00", "")),
				"a branch with keys around": branch([]int{2, 3, 4, 5}, a, b, b+"\x00"),
			} {
				if i < j {
					mustBe(t, what, n)
				} else {
					mustNotBeOrBeRead(t, what, n)
				}
			}
		}
	}
}

// TestOnePairThatDoesNotRise: wherever it stands.
func TestOnePairThatDoesNotRise(t *testing.T) { // P8.1
	for at := range 9 {
		for _, wrong := range []byte{0, 1} { // the key ahead again, or one below it
			var cells []node.Cell
			var keys []string
			for i := range 10 {
				key := []byte{'k', byte(10 * (i + 1))}
				if i == at+1 {
					key[1] = byte(10*i) - wrong
				}
				cells = append(cells, inline(string(key), "v"))
				keys = append(keys, string(key))
			}
			mustNotBeOrBeRead(t, "a leaf with a pair that doesn't rise", leaf(cells...))
			mustNotBeOrBeRead(t, "a branch with a pair that doesn't rise", branch(kidsFrom(2, 11), keys...))
		}
	}
}

func TestHowManyKids(t *testing.T) { // P8.1
	for n := range 6 {
		var keys []string
		for i := range n {
			keys = append(keys, strings.Repeat("k", i+1))
		}
		for kids := range 9 {
			b := branch(kidsFrom(2, kids), keys...)
			length := 7 + 5*n + n*(n+1)/2
			if kids == n+1 {
				mustBe(t, "a branch with one more kid than keys", b)
			} else {
				mustNotBe(t, "a branch with another number of kids", b, length)
			}
		}
	}
	mustNotBe(t, "a branch without kids", &node.Branch{}, 7)
	mustNotBe(t, "a branch of empty lists", &node.Branch{Keys: [][]byte{}, Kids: []int{}}, 7)
	mustNotBe(t, "a branch of a key alone", branch(nil, "k"), 13)
}

// nodesOf: nodes of that length, near 1016, that may be if only they aren't too long.
func nodesOf(length int) map[string]node.Node {
	few := leaf(inline("a", long(200)), inline("b", long(200)), inline("c", long(200)), inline("d", long(200)))
	few.Cells = append(few.Cells, inline("e", long(length-few.Len()-4)))
	chains := leaf()
	var keys []string
	for i := range 9 {
		key := string(rune('a'+i)) + long(99)
		chains.Cells = append(chains.Cells, chained(key, 16384-i, 500+i))
		keys = append(keys, key)
	}
	chains.Cells = append(chains.Cells, chained("z"+long(length-chains.Len()-10), 201, 2))
	wide := branch(kidsFrom(1<<31-11, 10), keys...)
	wide.Keys = append(wide.Keys, []byte("z"+long(length-wide.Len()-6)))
	wide.Kids = append(wide.Kids, 2)
	many, slim := leaf(), &node.Branch{Kids: kidsFrom(77, 169)}
	for i := range 253 {
		many.Cells = append(many.Cells, inline(string([]byte{byte(i)}), ""))
	}
	many.Cells[252].Inline = []byte(long(length - many.Len()))
	for i := range 168 {
		slim.Keys = append(slim.Keys, []byte{byte(i)})
	}
	slim.Keys[167] = append(slim.Keys[167], long(length-slim.Len())...)
	return map[string]node.Node{"few cells": few, "chains": chains, "great keys": wide, "many cells": many, "many kids": slim}
}

func TestHowLongNodesMayBe(t *testing.T) { // P8.1
	for _, length := range []int{1015, 1016} {
		for what, n := range nodesOf(length) {
			if n.Len() != length {
				t.Errorf("P8.1: %s: Len %d, not %d", what, n.Len(), length)
			}
			mustBe(t, what, n)
		}
	}
	for _, length := range []int{1017, 1018, 1024} {
		for what, n := range nodesOf(length) {
			mustNotBe(t, what, n, length)
			mustBeMalformed(t, what+", cut", plainSays(n)[:1016])
			mustBeMalformed(t, what+", whole", plainSays(n))
		}
	}
	huge, tall := leaf(), &node.Branch{Kids: kidsFrom(2, 70001)}
	for i := range 70000 {
		key := binary.BigEndian.AppendUint32(nil, uint32(i))
		huge.Cells = append(huge.Cells, node.Cell{Key: key})
		tall.Keys = append(tall.Keys, key)
	}
	mustNotBe(t, "more cells than two bytes tell", huge, 3+70000*7)
	mustNotBe(t, "more kids than two bytes tell", tall, 7+70000*9)
	huge.Cells, tall.Keys, tall.Kids = huge.Cells[:65536], tall.Keys[:65536], tall.Kids[:65537]
	mustNotBe(t, "2^16 cells", huge, 3+65536*7)
	mustNotBe(t, "2^16 keys", tall, 7+65536*9)
}

// TestHowLongNodesAreThatMayNotBe: each part counts, be it right or not.
func TestHowLongNodesAreThatMayNotBe(t *testing.T) { // P8.1
	mustNotBe(t, "a cell of nothing", leaf(node.Cell{}), 6)
	mustNotBe(t, "two cells of nothing", leaf(node.Cell{}, node.Cell{}), 9)
	mustNotBe(t, "a size alone", leaf(node.Cell{Size: 1}), 12)
	mustNotBe(t, "a size below 0, and bytes", leaf(node.Cell{Size: -5, Inline: []byte(long(400))}), 12)
	mustNotBe(t, "bytes alone", leaf(node.Cell{Inline: []byte(long(400))}), 406)
	mustNotBe(t, "a head alone", leaf(node.Cell{Head: 7}), 6)
	mustNotBe(t, "a long key", leaf(inline(long(300), long(300)), node.Cell{Key: []byte(long(300)), Size: 70000}), 3+603+309)
	mustNotBe(t, "a branch of kids alone", branch([]int{2, 3, 4, 5}), 7)
	mustNotBe(t, "a branch of keys alone", branch(nil, "", "", long(1000)), 7+15+1000)
}

func TestFromPayOfOtherLengths(t *testing.T) { // P8.1
	nodes := nodesOf(1016)
	nodes["no cells"], nodes["one kid"] = leaf(), branch([]int{7})
	nodes["two cells"], nodes["two kids"] = leaf(inline("a", "x"), chained("b", 300, 9)), branch([]int{3, 4}, "m")
	for what, n := range nodes {
		says := plainSays(n)
		length := len(says)
		says = append(says, make([]byte, 3000)...)
		for _, n := range []int{0, 1, 2, 3, 7, length - 1, length, length + 1, 1014, 1015, 1017, 1018, 1024, 2032} {
			if n == 1016 {
				continue
			}
			mustBeMalformed(t, what+", another length", says[:n])
			mustBeMalformed(t, what+", another length, without room behind", says[:n:n])
			mustBeMalformed(t, "bytes 0 of another length", make([]byte, n))
		}
		mustRead(t, what+", with room behind", says[:1016], n)
	}
	mustBeMalformed(t, "nil", nil)
}

func TestFromPayOfFirstBytes(t *testing.T) { // P8.1
	for first := range 256 {
		empty := make([]byte, 1016)
		empty[0] = byte(first)
		kid := filled(plainSays(branch([]int{7})))
		kid[0] = byte(first)
		cells := filled(plainSays(leaf(inline("a", "x"))))
		cells[0] = byte(first)
		switch first {
		case 1:
			mustRead(t, "bytes 0 of a leaf", empty, leaf())
			mustRead(t, "a cell of a leaf", cells, leaf(inline("a", "x")))
			mustBeMalformed(t, "a kid of a leaf", kid)
		case 2:
			mustBeMalformed(t, "bytes 0 of a branch", empty)
			mustRead(t, "a kid of a branch", kid, branch([]int{7}))
			mustBeMalformed(t, "a cell of a branch", cells)
		default:
			mustBeMalformed(t, "bytes 0 of no kind", empty)
			mustBeMalformed(t, "a kid of no kind", kid)
			mustBeMalformed(t, "a cell of no kind", cells)
		}
	}
	for _, x := range []byte{1, 2, 255} {
		mustBeMalformed(t, "one byte again and again", bytes.Repeat([]byte{x}, 1016))
	}
}

// cellsOf: cells by rising keys that need just so many bytes.
func cellsOf(total int) []node.Cell {
	var out []node.Cell
	for total > 0 {
		n := min(200, total-4)
		if left := total - 4 - n; left > 0 && left < 4 {
			n -= 4
		}
		out = append(out, inline(string(rune('a'+len(out))), long(n)))
		total -= 4 + n
	}
	return out
}

// keysOf: rising keys that need, each with its kid, just so many bytes.
func keysOf(total int) []string {
	var out []string
	for total > 0 {
		n := min(100, total-5)
		if left := total - 5 - n; left > 0 && left < 6 {
			n -= 6
		}
		out = append(out, string(rune('a'+len(out)))+long(n-1))
		total -= 5 + n
	}
	return out
}

// mustBeCut: a node whose last part has so many bytes, none of which stand within a page, or some, or all: only then it is read.
func mustBeCut(t *testing.T, what string, last int, nodeOf func(fit int) node.Node) {
	t.Helper()
	for fit := range last + 1 {
		n := nodeOf(fit)
		says := plainSays(n)
		if len(says) != 1016+last-fit {
			t.Fatalf("%s: %d bytes, of which %d of %d should be within a page", what, len(says), fit, last)
		}
		if fit == last {
			mustBe(t, what+", whole", n)
		} else {
			mustBeMalformed(t, what+", cut", says[:1016])
		}
	}
}

func TestFromPayThatEndsWithin(t *testing.T) { // P8.1
	for what, c := range map[string]node.Cell{
		"a small cell":         inline("z", "v"),
		"a cell of bytes 0":    inline("z\x00\x00\x00", "\x00\x00\x00"),
		"a great cell":         inline("z"+long(99), long(200)),
		"a cell with a chain":  chained("zz", 300, 0x01020304),
		"a chain, a great key": chained("z"+long(99), 16384, 2),
	} {
		last := leaf(c).Len() - 3
		mustBeCut(t, what, last, func(fit int) node.Node {
			return leaf(append(cellsOf(1013-fit), c)...)
		})
	}
	for what, key := range map[string]string{"a small key": "z", "a great key": "z" + long(99), "a key of bytes 0": "z\x00\x00"} {
		mustBeCut(t, what, 5+len(key), func(fit int) node.Node {
			keys := append(keysOf(1009-fit), key)
			return branch(kidsFrom(0x01010101, len(keys)+1), keys...)
		})
	}
}

// TestFromPayOfMoreThanThereAre: what isn't said is bytes 0, which are no cell and no key.
func TestFromPayOfMoreThanThereAre(t *testing.T) { // P8.1
	for _, count := range []uint16{1, 2, 200, 253, 254, 255, 256, 257, 512, 1 << 15, 65535} {
		says := binary.BigEndian.AppendUint16([]byte{1}, count)
		mustBeMalformed(t, "cells that there aren't", filled(says))
		says = binary.BigEndian.AppendUint16([]byte{2}, count)
		mustBeMalformed(t, "keys that there aren't", filled(append(says, 0, 0, 0, 7)))
	}
	for what, n := range nodesOf(1016) {
		says := plainSays(n)
		count := binary.BigEndian.Uint16(says[1:])
		for _, other := range []uint16{0, 1, count - 1, count + 1, count + 256, count + 1<<15, 65535} {
			binary.BigEndian.PutUint16(says[1:], other)
			mustBeMalformed(t, what+", another number", says)
		}
		binary.BigEndian.PutUint16(says[1:], count)
		mustRead(t, what, says, n)
	}
}

// ordinary: some nodes that may be.
func ordinary() map[string]node.Node {
	return map[string]node.Node{
		"no cells":     leaf(),
		"one cell":     leaf(inline("key", "value")),
		"one chain":    leaf(chained("key", 300, 9)),
		"a chain last": leaf(inline("a", "x"), chained("b", 201, 2)),
		"a chain amid": leaf(inline("a", "x"), chained("b", 16384, 1<<31-1), inline("c", "")),
		"bytes 0":      leaf(inline("\x00", "\x00\x00"), inline("\x00\x00", "")),
		"many cells":   leaf(cellsOf(700)...),
		"one kid":      branch([]int{7}),
		"two kids":     branch([]int{3, 4}, "m"),
		"many kids":    branch(kidsFrom(1<<31-20, len(keysOf(700))+1), keysOf(700)...),
	}
}

func TestFromPayOfAByteBehind(t *testing.T) { // P8.1
	nodes := ordinary()
	for what, n := range nodesOf(1015) {
		nodes[what+", 1015 bytes"] = n
	}
	for what, n := range nodes {
		for at := n.Len(); at < 1016; at++ {
			for _, x := range []byte{1, 128, 255} {
				says := filled(plainSays(n))
				says[at] = x
				mustBeMalformed(t, what+", a byte behind", says)
			}
		}
	}
}

// TestFromPayOfAByteBehindAHead: the two bytes behind the head are 0.
func TestFromPayOfAByteBehindAHead(t *testing.T) { // P8.1
	n := leaf(chained("a", 300, 9), inline("b", "x"))
	for at := 3 + 1 + 1 + 2 + 4; at < 13; at++ {
		for x := range 256 {
			says := filled(plainSays(n))
			says[at] = byte(x)
			if x == 0 {
				mustRead(t, "bytes 0 behind a head", says, n)
			} else {
				mustBeMalformed(t, "a byte behind a head", says)
			}
		}
	}
}

// TestFromPayOfEachByteTurned: whatever one byte of a page becomes, the chapter's words say what is read.
func TestFromPayOfEachByteTurned(t *testing.T) { // P8.1, P8.3
	for what, n := range ordinary() {
		says := filled(plainSays(n))
		for at := range min(1016, n.Len()+3) {
			was := says[at]
			for _, x := range []byte{0, 1, 2, 3, 100, 101, 200, 201, 255, was ^ 1, was ^ 128, was + 1, was - 1} {
				says[at] = x
				mustAgree(t, what+", a byte turned", says)
			}
			says[at] = was
		}
	}
}

// randomNode: a node, most often one that may be.
func randomNode(random *rand.Rand) node.Node {
	n := random.Intn(1 + random.Intn(60))
	var keys [][]byte
	for range n {
		key := make([]byte, 1+random.Intn(1+random.Intn(100)))
		random.Read(key)
		keys = append(keys, key)
	}
	slices.SortFunc(keys, bytes.Compare)
	if random.Intn(2) == 0 {
		b := &node.Branch{Keys: keys}
		for range n + 1 {
			b.Kids = append(b.Kids, 2+random.Intn(1<<31-2)>>random.Intn(31))
		}
		return b
	}
	l := &node.Leaf{}
	for _, key := range keys {
		c := node.Cell{Key: key}
		if random.Intn(4) == 0 {
			c.Size, c.Head = 201+random.Intn(16184), 2+random.Intn(1<<31-2)
		} else {
			c.Inline = make([]byte, random.Intn(1+random.Intn(201)))
			random.Read(c.Inline)
		}
		l.Cells = append(l.Cells, c)
	}
	return l
}

// spoilNode: a random part of a node becomes, it may be, a wrong one.
func spoilNode(random *rand.Rand, n node.Node) {
	numbers := []int{math.MinInt, -1, 0, 1, 2, 200, 201, 16384, 16385, 1<<31 - 1, 1 << 31, 1<<32 + 2, 1<<32 + 300, math.MaxInt}
	no := numbers[random.Intn(len(numbers))]
	lengths := []int{0, 1, 99, 100, 101, 200, 201, 255, 256}
	part := []byte(long(lengths[random.Intn(len(lengths))]))
	switch x := n.(type) {
	case *node.Leaf:
		if len(x.Cells) == 0 {
			return
		}
		at := random.Intn(len(x.Cells))
		c := &x.Cells[at]
		switch random.Intn(5) {
		case 0:
			c.Key = part
		case 1:
			c.Inline = part
		case 2:
			c.Size = no
		case 3:
			c.Head = no
		case 4:
			x.Cells[0], *c = *c, x.Cells[0]
		}
	case *node.Branch:
		at := random.Intn(len(x.Kids))
		switch random.Intn(4) {
		case 0:
			x.Kids[at] = no
		case 1:
			x.Kids = x.Kids[:at]
		case 2:
			x.Kids = append(x.Kids, 9)
		case 3:
			if at < len(x.Keys) {
				x.Keys[at] = part
			}
		}
	}
}

// TestAnyNode: nodes that may be, and such as may not, are what the chapter's words make of them; what is told is read again.
func TestAnyNode(t *testing.T) { // P8.1, P8.3
	random := rand.New(rand.NewSource(8))
	told := 0
	for i := range 20000 {
		n := randomNode(random)
		if i%2 == 1 {
			spoilNode(random, n)
		}
		if plainMay(n) {
			told++
			mustBe(t, "any node", n)
		} else {
			mustNotBe(t, "any node that may not be", n, plainLen(n))
		}
	}
	if told < 5000 || told > 18000 {
		t.Errorf("%d of the random nodes may be", told)
	}
}

// TestFromPayOfAnyBytes: pages of nodes, with some bytes moved or turned; what is read may be, and has just those bytes.
func TestFromPayOfAnyBytes(t *testing.T) { // P8.1, P8.3
	random := rand.New(rand.NewSource(88))
	read := 0
	for range 20000 {
		n := randomNode(random)
		says := plainSays(n)
		says = filled(says[:min(len(says), 1016)])
		for range random.Intn(4) {
			at := random.Intn(min(1016, n.Len()+2))
			switch random.Intn(3) {
			case 0:
				says[at] = byte(random.Intn(256))
			case 1:
				says[at] += byte(random.Intn(3) - 1)
			case 2:
				says = filled(slices.Delete(bytes.Clone(says), at, min(1016, at+1+random.Intn(3))))
			}
		}
		if mustAgree(t, "any bytes", says) {
			read++
			x, _ := node.FromPay(says)
			if !x.May() || !bytes.Equal(filled(x.Pay()), says) {
				t.Fatalf("P8.3: what is read is %v, which may not be or has other bytes", x)
			}
		}
	}
	if read < 3000 || read > 18000 {
		t.Errorf("%d of the random pages were a node's", read)
	}
	for range 2000 {
		b := make([]byte, 1016)
		random.Read(b)
		b[0] = byte(1 + random.Intn(2))
		b[1] = 0
		mustAgree(t, "bytes of all kinds", b)
	}
}
