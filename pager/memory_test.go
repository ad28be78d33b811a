package pager_test

import (
	"bytes"
	"slices"
	"testing"

	"cambium/api"
	"cambium/node"
	"cambium/pager"
)

// withRoom: bytes with room behind them, and all of that.
func withRoom(b []byte) (part, whole []byte) {
	whole = append(bytes.Clone(b), bytes.Repeat([]byte{0xC3}, 2000)...)
	return whole[:len(b)], whole
}

// spoil: bytes are written over, and what would be put behind them, too.
func spoil(b []byte) {
	b = b[:cap(b)]
	for i := range b {
		b[i] = 0x5A
	}
}

// handIn: bytes are handed to a call; it must leave them, and the room behind them, as they are; then they are written over.
func handIn(t *testing.T, what string, b []byte, call func(b []byte)) {
	t.Helper()
	part, whole := withRoom(b)
	before := bytes.Clone(whole)
	call(part)
	if !bytes.Equal(whole, before) {
		t.Errorf("rule 3: %s changed what was handed in", what)
	}
	spoil(whole)
}

func TestWhatIsHandedInIsNotKept(t *testing.T) { // P9.2, P9.3
	for _, n := range []int{0, 1, 1015, 1016} {
		x, d := makePager(t, 40, 40)
		handIn(t, "Put", long(n), func(b []byte) { x.Put(b) })
		mustSay(t, x, 2, long(n))
		x.Put(nil)
		handIn(t, "Set", long(n), func(b []byte) { x.Set(3, b) })
		mustSay(t, x, 2, long(n))
		mustSay(t, x, 3, long(n))
		mustFlush(t, x, api.OK)
		y := pager.New(d, x.Pool(), 6, 5)
		mustSay(t, y, 2, long(n))
		mustSay(t, y, 3, long(n))
	}
	for _, n := range []int{1017, 2000} {
		x, _ := makePager(t, 40, 40)
		handIn(t, "Put", long(n), func(b []byte) { x.Put(b) })
		handIn(t, "Set", long(n), func(b []byte) { x.Set(2, b) })
	}
	for _, n := range lengths {
		x, _ := makePager(t, 40, 40)
		head := 0
		handIn(t, "PutChain", long(n), func(b []byte) { head, _ = x.PutChain(b) })
		mustChain(t, x, head, long(n), downFrom(head, head-1)...)
		x, _ = makePager(t, 40, 3)
		handIn(t, "PutChain of a full pool", long(n), func(b []byte) { x.PutChain(b) })
	}
}

// TestWhatIsAnsweredOfPagesIsNewMemory: written over, it changes nothing that is told.
func TestWhatIsAnsweredOfPagesIsNewMemory(t *testing.T) { // P9.1
	x, d := makePager(t, 8, 8)
	mustPut(t, x, leafOf("fresh").Pay(), 2)
	mustPut(t, x, branchOf().Pay(), 3)
	writePage(t, d, 6, leafOf("disk's").Pay())
	writePage(t, d, 7, branchOf().Pay())
	for range 2 {
		for _, no := range []int{2, 3, 6, 7} {
			says, _ := x.Read(no)
			other, _ := x.Read(no)
			spoil(says)
			mustBePay(t, other)
			for _, read := range []func(int) (node.Node, api.Code){x.Node, func(no int) (node.Node, api.Code) { return pager.Node(d, no) }} {
				if n, e := read(no); e == api.OK {
					spoilNode(n)
				}
			}
		}
		mustBeNode(t, x, 2, leafOf("fresh"))
		mustBeNode(t, x, 3, branchOf())
		mustBeNode(t, x, 6, leafOf("disk's"))
		mustBeNode(t, x, 7, branchOf())
	}
	mustFlush(t, x, api.OK)
	mustBeNodeOf(t, d, 2, leafOf("fresh"))
	mustBeNodeOf(t, d, 3, branchOf())
	mustBeNodeOf(t, d, 6, leafOf("disk's"))
}

// mustBePay: these are what a node's page says still.
func mustBePay(t *testing.T, says []byte) {
	t.Helper()
	if _, e := node.FromPay(says); e != api.OK {
		t.Errorf("rule 3: what was answered shares its memory: code %d", e)
	}
}

// spoilNode: a node's lists are written over.
func spoilNode(n node.Node) {
	switch x := n.(type) {
	case *node.Leaf:
		for i := range x.Cells {
			spoil(x.Cells[i].Key)
			spoil(x.Cells[i].Inline)
			x.Cells[i] = node.Cell{}
		}
	case *node.Branch:
		for i := range x.Keys {
			spoil(x.Keys[i])
		}
		for i := range x.Kids {
			x.Kids[i] = 99
		}
	}
}

// TestWhatIsAnsweredOfChainsIsNewMemory: written over, it changes nothing that is told.
func TestWhatIsAnsweredOfChainsIsNewMemory(t *testing.T) { // P9.3
	x, d := makePager(t, 40, 40)
	for _, n := range []int{1, 1010, 1011, 3000} {
		head, _ := x.PutChain(long(n))
		mustFlush(t, x, api.OK)
		y := pager.New(d, x.Pool(), 6, 5)
		for _, p := range []*pager.Pager{x, y} {
			val, pages, _ := p.Chain(head, n)
			other, on, _ := p.Chain(head, n)
			spoil(val)
			spoilNumbers(pages)
			if !bytes.Equal(other, long(n)) || on[0] != head {
				t.Error("rule 3: two answers share their memory")
			}
			mustChain(t, p, head, long(n), on...)
		}
	}
}

// TestListsThatAreAnsweredAreNewMemory: the list of fresh pages, too.
func TestListsThatAreAnsweredAreNewMemory(t *testing.T) { // P9.4
	x, d := makePager(t, 8, 8)
	for no := 2; no < 5; no++ {
		mustPut(t, x, nil, no)
	}
	fresh, other := x.Fresh(), x.Fresh()
	spoilNumbers(fresh)
	if !slices.Equal(other, []int{2, 3, 4}) {
		t.Error("rule 3: two answers share their memory")
	}
	mustHold(t, x, 5, []int{2, 3, 4})
	mustFlush(t, x, api.OK)
	mustWait(t, "flushed", d, 2, 3, 4)
}

// spoilNumbers: numbers are written over, and what would be put behind them, too.
func spoilNumbers(list []int) {
	list = list[:cap(list)]
	for i := range list {
		list[i] = 77
	}
}

// TestAnswersStayWhatTheyWere: whatever is done behind them.
func TestAnswersStayWhatTheyWere(t *testing.T) { // P9.1 to P9.4
	x, d := makePager(t, 20, 20)
	mustPut(t, x, leafOf("v").Pay(), 2)
	head, _ := x.PutChain(long(1500))
	says, _ := x.Read(2)
	n, _ := x.Node(2)
	val, pages, _ := x.Chain(head, 1500)
	fresh := x.Fresh()
	mustFlush(t, x, api.OK)
	onDisk, _ := pager.Node(d, 2)
	mustSet(t, x, 2, long(1016), api.OK)
	x.DropChain(head, 1500)
	x.PutChain(long(9000))
	mustFlush(t, x, api.OK)
	x.Drop(2)
	writePage(t, d, 2, nil)
	if !bytes.Equal(says, filled(leafOf("v").Pay())) || !bytes.Equal(n.Pay(), leafOf("v").Pay()) || !bytes.Equal(onDisk.Pay(), leafOf("v").Pay()) {
		t.Error("rule 3: what was told of a page has changed")
	}
	if !bytes.Equal(val, long(1500)) || !slices.Equal(pages, []int{4, 3}) || !slices.Equal(fresh, []int{2, 3, 4}) {
		t.Error("rule 3: what was told of a chain, or of the fresh pages, has changed")
	}
}
