package pager_test

import (
	"bytes"
	"math"
	"slices"
	"testing"

	"cambium/api"
	"cambium/disk"
	"cambium/node"
	"cambium/page"
	"cambium/pager"
	"cambium/pool"
)

// farNumbers: numbers of pages that no disk here has, some of which look right in fewer bits.
var farNumbers = []int{math.MinInt, -1 << 32, -1<<32 + 2, -1 << 31, -2, -1, 2048, 1<<31 - 1, 1 << 31, 1 << 32, 1<<32 + 2, math.MaxInt}

// long: n bytes that aren't all the same, and end with another one than 0.
func long(n int) []byte {
	out := make([]byte, n)
	for i := range out {
		out[i] = byte(i*7 + i/251 + n)
	}
	if n > 0 {
		out[n-1] |= 1
	}
	return out
}

// filled: bytes, and bytes 0 up to what a page says.
func filled(b []byte) []byte {
	return append(bytes.Clone(b), make([]byte, 1016-len(b))...)
}

// leafOf: a leaf of one item, which is told by its value.
func leafOf(val string) *node.Leaf {
	return &node.Leaf{Cells: []node.Cell{{Key: []byte("k"), Inline: []byte(val)}}}
}

// branchOf: a branch of two kids.
func branchOf() *node.Branch {
	return &node.Branch{Keys: [][]byte{[]byte("m")}, Kids: []int{2, 3}}
}

// makePool: a pool of these.
func makePool(t *testing.T, capacity, high int, list ...api.Freed) *pool.Pool {
	t.Helper()
	p, e := pool.New(capacity, high, list)
	if e != api.OK {
		t.Fatalf("pool.New(%d, %d, %v): code %d", capacity, high, list, e)
	}
	return p
}

// makePager: a pager of version 5 and horizon 3 on a disk of so many pages, none of which was ever used, and that disk.
func makePager(t *testing.T, pages, capacity int) (*pager.Pager, *disk.Disk) {
	t.Helper()
	d := disk.New(pages)
	return pager.New(d, makePool(t, capacity, 2), 5, 3), d
}

// writePage: the disk's page says this.
func writePage(t *testing.T, d *disk.Disk, no int, says []byte) {
	t.Helper()
	b, e := page.Frame(no, says)
	if e != api.OK {
		t.Fatalf("page.Frame(%d): code %d", no, e)
	}
	writeBytes(t, d, no, b)
}

// writeBytes: the disk's page has these bytes.
func writeBytes(t *testing.T, d *disk.Disk, no int, b []byte) {
	t.Helper()
	if e := d.Write(no, b); e != api.OK {
		t.Fatalf("disk.Write(%d): code %d", no, e)
	}
}

// tearPage: the disk's page is torn.
func tearPage(t *testing.T, d *disk.Disk, no int) {
	t.Helper()
	b, e := d.Read(no)
	if e != api.OK {
		t.Fatalf("disk.Read(%d): code %d", no, e)
	}
	writeBytes(t, d, no, page.Torn(b))
}

// mustPut: Put tells this page.
func mustPut(t *testing.T, x *pager.Pager, says []byte, want int) {
	t.Helper()
	if no, e := x.Put(says); e != api.OK || no != want {
		t.Fatalf("P9.2: Put of %d bytes: %d and code %d, not %d", len(says), no, e, want)
	}
	mustSay(t, x, want, says)
}

// mustNotPut: Put refuses it.
func mustNotPut(t *testing.T, x *pager.Pager, says []byte, want api.Code) {
	t.Helper()
	if no, e := x.Put(says); e != want || no != 0 {
		t.Errorf("P9.2: Put of %d bytes: %d and code %d, not 0 and code %d", len(says), no, e, want)
	}
}

// mustSet: Set answers this code.
func mustSet(t *testing.T, x *pager.Pager, no int, says []byte, want api.Code) {
	t.Helper()
	if e := x.Set(no, says); e != want {
		t.Errorf("P9.2: Set(%d, %d bytes): code %d, not %d", no, len(says), e, want)
	}
}

// mustSay: the page says this, filled up.
func mustSay(t *testing.T, x *pager.Pager, no int, says []byte) {
	t.Helper()
	if got, e := x.Read(no); e != api.OK || !bytes.Equal(got, filled(says)) {
		t.Errorf("P9.1: Read(%d): code %d and %d bytes that aren't the %d that it says, filled up", no, e, len(got), len(says))
	}
}

// mustNotSay: the page says nothing.
func mustNotSay(t *testing.T, x *pager.Pager, no int) {
	t.Helper()
	if got, e := x.Read(no); e != api.Sum || len(got) != 0 {
		t.Errorf("P9.1: Read(%d): code %d and %d bytes, not Sum and none", no, e, len(got))
	}
}

// mustHold: these are the fresh pages, these the freed ones, and this is the high mark.
func mustHold(t *testing.T, x *pager.Pager, high int, fresh []int, freed ...api.Freed) {
	t.Helper()
	if got := x.Fresh(); !slices.Equal(got, fresh) {
		t.Errorf("P9.4: fresh pages %v, not %v", got, fresh)
	}
	if got := x.Pool().List(); !slices.Equal(got, freed) {
		t.Errorf("P9.4: freed pages %v, not %v", got, freed)
	}
	if got := x.Pool().High(); got != high {
		t.Errorf("P9.4: high mark %d, not %d", got, high)
	}
}

// mustWait: these pages wait on the disk.
func mustWait(t *testing.T, what string, d *disk.Disk, want ...int) {
	t.Helper()
	if got := d.Waiting(); !slices.Equal(got, want) {
		t.Errorf("P9.4: %s: pages %v wait, not %v", what, got, want)
	}
}

// mustFlush: Flush answers this code.
func mustFlush(t *testing.T, x *pager.Pager, want api.Code) {
	t.Helper()
	if e := x.Flush(); e != want {
		t.Errorf("P9.4: Flush: code %d, not %d", e, want)
	}
}

// mustBeNode: the page says this node, as the pager sees it.
func mustBeNode(t *testing.T, x *pager.Pager, no int, want node.Node) {
	t.Helper()
	n, e := x.Node(no)
	if e != api.OK || !bytes.Equal(n.Pay(), want.Pay()) {
		t.Errorf("P9.1: Node(%d): code %d and %v, not %v", no, e, n, want)
	}
}

// mustNotBeNode: the pager's call answers this code.
func mustNotBeNode(t *testing.T, x *pager.Pager, no int, want api.Code) {
	t.Helper()
	if n, e := x.Node(no); e != want || n != nil {
		t.Errorf("P9.1: Node(%d): code %d and %v, not code %d and none", no, e, n, want)
	}
}

// mustBeNodeOf: the disk's own page says this node.
func mustBeNodeOf(t *testing.T, d *disk.Disk, no int, want node.Node) {
	t.Helper()
	n, e := pager.Node(d, no)
	if e != api.OK || !bytes.Equal(n.Pay(), want.Pay()) {
		t.Errorf("P9.1: Node(d, %d): code %d and %v, not %v", no, e, n, want)
	}
}

// mustNotBeNodeOf: the call of the disk alone answers this code.
func mustNotBeNodeOf(t *testing.T, d *disk.Disk, no int, want api.Code) {
	t.Helper()
	if n, e := pager.Node(d, no); e != want || n != nil {
		t.Errorf("P9.1: Node(d, %d): code %d and %v, not code %d and none", no, e, n, want)
	}
}

func TestNew(t *testing.T) { // P9.1
	for _, pages := range []int{0, 1, 2, 3, 10, 2048} {
		for _, p := range []*pool.Pool{
			makePool(t, 2, 2),
			makePool(t, 10, 2),
			makePool(t, 10, 5, api.Freed{Page: 4, Gen: 9}, api.Freed{Page: 2, Gen: 7}),
			makePool(t, 2048, 2048, api.Freed{Page: 2047, Gen: math.MaxUint64}),
		} {
			d := disk.New(pages)
			x := pager.New(d, p, 5, 3)
			mustHold(t, x, p.High(), nil, p.List()...)
			for no := -2; no < min(pages+3, 20); no++ {
				mustNotSay(t, x, no)
				mustNotBeNode(t, x, no, api.Sum)
				mustNotBeNodeOf(t, d, no, api.Sum)
			}
			mustFlush(t, x, api.OK)
			mustWait(t, "a new pager, flushed", d)
		}
	}
}

func TestThePoolHandedInStays(t *testing.T) { // P9.1, P9.5
	p := makePool(t, 8, 6, api.Freed{Page: 2, Gen: 1}, api.Freed{Page: 3, Gen: 9})
	want := p.List()
	x := pager.New(disk.New(8), p, 5, 3)
	mustPut(t, x, nil, 2)
	mustPut(t, x, nil, 6)
	x.Drop(6)
	x.Drop(5)
	x.PutChain(long(1500))
	x.Pool().Free(4, 1)
	x.Pool().Trim(9)
	if p.High() != 6 || !slices.Equal(p.List(), want) {
		t.Errorf("P9.1: the pool handed in has %v and the high mark %d, not %v and 6", p.List(), p.High(), want)
	}
}

// TestThePoolHandedInIsUsedOn: what becomes of it doesn't touch the pager's.
func TestThePoolHandedInIsUsedOn(t *testing.T) { // P9.1
	p := makePool(t, 8, 4, api.Freed{Page: 2, Gen: 1})
	x := pager.New(disk.New(8), p, 5, 3)
	y := pager.New(disk.New(8), p, 5, 3)
	p.Alloc(9)
	p.Alloc(9)
	p.Free(3, 0)
	mustHold(t, x, 4, nil, api.Freed{Page: 2, Gen: 1})
	mustPut(t, x, nil, 2)
	mustPut(t, x, nil, 4)
	mustHold(t, y, 4, nil, api.Freed{Page: 2, Gen: 1})
}

// TestThePoolIsThePagers: what is done with it the pager's calls tell.
func TestThePoolIsThePagers(t *testing.T) { // P9.4
	x, _ := makePager(t, 10, 10)
	for no := 2; no < 6; no++ {
		mustPut(t, x, nil, no)
	}
	p := x.Pool()
	x.Drop(3)
	x.Drop(5)
	if want := []api.Freed{{Page: 3}, {Page: 5}}; !slices.Equal(p.List(), want) {
		t.Errorf("P9.4: %v, not %v", p.List(), want)
	}
	if n := p.Trim(3); n != 1 {
		t.Errorf("P9.4: %d pages are trimmed, not 1", n)
	}
	mustHold(t, x, 5, []int{2, 4}, api.Freed{Page: 3})
	mustPut(t, x, nil, 3)
	mustPut(t, x, nil, 5)
	if len(p.List()) != 0 || p.High() != 6 {
		t.Errorf("P9.4: %v and the high mark %d, not none and 6", p.List(), p.High())
	}
}

func TestReadOfTheDisk(t *testing.T) { // P9.1
	for _, pages := range []int{1, 2, 3, 10, 2048} {
		x, d := makePager(t, pages, 10)
		for _, no := range slices.Compact([]int{0, pages / 2, pages - 1}) {
			says := []byte{byte(no), 7}
			mustNotSay(t, x, no)
			writePage(t, d, no, says)
			mustSay(t, x, no, says)
			tearPage(t, d, no)
			mustNotSay(t, x, no)
			writePage(t, d, no, long(1016))
			mustSay(t, x, no, long(1016))
		}
		mustNotSay(t, x, pages)
		mustNotSay(t, x, pages+1)
		for _, no := range farNumbers {
			mustNotSay(t, x, no)
		}
	}
}

// TestReadOfAPageThatBelongsElsewhere: it can't be opened where it stands.
func TestReadOfAPageThatBelongsElsewhere(t *testing.T) { // P9.1
	x, d := makePager(t, 4, 4)
	b, _ := page.Frame(2, []byte("says"))
	for no := range 4 {
		writeBytes(t, d, no, b)
		if no == 2 {
			mustSay(t, x, no, []byte("says"))
		} else {
			mustNotSay(t, x, no)
		}
	}
}

// TestReadOfWhatIsSeen: the disk's page is read as the disk shows it, whether it waits, or is safe, or the power is gone.
func TestReadOfWhatIsSeen(t *testing.T) { // P9.1
	x, d := makePager(t, 4, 4)
	writePage(t, d, 3, []byte("safe"))
	d.Sync()
	writePage(t, d, 3, []byte("waits"))
	mustSay(t, x, 3, []byte("waits"))
	d.Arm(1)
	if d.Sync() != api.Down {
		t.Fatal("the power should be gone")
	}
	mustSay(t, x, 3, []byte("waits"))
	d.Crash([]bool{true}, 0)
	mustNotSay(t, x, 3)
	writePage(t, d, 3, []byte("anew"))
	mustSay(t, x, 3, []byte("anew"))
	d.Crash(nil, 0)
	mustNotSay(t, x, 3)
}

// TestReadOfAFreshPage: what it says stands above what the disk's page does.
func TestReadOfAFreshPage(t *testing.T) { // P9.1
	x, d := makePager(t, 4, 6)
	for no := range 3 {
		writePage(t, d, no, []byte("disk's"))
	}
	mustPut(t, x, []byte("fresh"), 2)
	mustPut(t, x, []byte("fresh, where the disk says nothing"), 3)
	mustPut(t, x, []byte("fresh, where no disk's page is"), 4)
	mustSay(t, x, 0, []byte("disk's"))
	mustSay(t, x, 1, []byte("disk's"))
	mustSay(t, x, 2, []byte("fresh"))
	mustNotSay(t, x, 5)
	tearPage(t, d, 2)
	mustSay(t, x, 2, []byte("fresh"))
	for no := 2; no < 5; no++ {
		x.Drop(no)
		mustNotSay(t, x, no)
	}
	writePage(t, d, 2, []byte("disk's"))
	mustSay(t, x, 2, []byte("disk's"))
}

func TestNode(t *testing.T) { // P9.1
	x, d := makePager(t, 20, 20)
	nodes := []node.Node{leafOf("v"), branchOf(), &node.Leaf{}, leafOf(string(long(200)))}
	for i, n := range nodes {
		mustPut(t, x, n.Pay(), 2+i)
		mustBeNode(t, x, 2+i, n)
		mustNotBeNodeOf(t, d, 2+i, api.Sum)
		writePage(t, d, 12+i, n.Pay())
		mustBeNode(t, x, 12+i, n)
		mustBeNodeOf(t, d, 12+i, n)
		tearPage(t, d, 12+i)
		mustNotBeNode(t, x, 12+i, api.Sum)
		mustNotBeNodeOf(t, d, 12+i, api.Sum)
	}
	for _, no := range append(farNumbers, 0, 1, 19, 20, 21) {
		mustNotBeNode(t, x, no, api.Sum)
		mustNotBeNodeOf(t, d, no, api.Sum)
	}
	mustFlush(t, x, api.OK)
	for i, n := range nodes {
		mustBeNodeOf(t, d, 2+i, n)
	}
}

func TestNodeKinds(t *testing.T) { // P9.1
	x, d := makePager(t, 4, 4)
	mustPut(t, x, leafOf("v").Pay(), 2)
	mustPut(t, x, branchOf().Pay(), 3)
	mustFlush(t, x, api.OK)
	for _, read := range []func(int) (node.Node, api.Code){x.Node, func(no int) (node.Node, api.Code) { return pager.Node(d, no) }} {
		n, _ := read(2)
		if l, ok := n.(*node.Leaf); !ok || len(l.Cells) != 1 || string(l.Cells[0].Key) != "k" || string(l.Cells[0].Inline) != "v" {
			t.Errorf("P9.1: %v, not the leaf", n)
		}
		n, _ = read(3)
		if b, ok := n.(*node.Branch); !ok || !slices.Equal(b.Kids, []int{2, 3}) || len(b.Keys) != 1 || string(b.Keys[0]) != "m" {
			t.Errorf("P9.1: %v, not the branch", n)
		}
	}
}

// TestNodeOfOtherPages: what can be opened, but says no node, is Malformed.
func TestNodeOfOtherPages(t *testing.T) { // P9.1
	behind := filled(leafOf("v").Pay())
	behind[1015] = 1
	for what, says := range map[string][]byte{
		"nothing":          nil,
		"a text":           []byte("text"),
		"a chain's page":   node.Link(0, []byte("part")),
		"a byte behind":    behind,
		"two leaves":       append(leafOf("v").Pay(), leafOf("w").Pay()...),
		"a kid below 2":    {2, 0, 0, 0, 0, 0, 1},
		"a cell too few":   {1, 0, 2, 1, 'k', 0, 1, 'v'},
		"bytes all around": bytes.Repeat([]byte{255}, 1016),
	} {
		x, d := makePager(t, 4, 4)
		mustPut(t, x, says, 2)
		writePage(t, d, 3, says)
		mustNotBeNode(t, x, 2, api.Malformed)
		mustNotBeNode(t, x, 3, api.Malformed)
		mustNotBeNodeOf(t, d, 3, api.Malformed)
		mustNotBeNodeOf(t, d, 2, api.Sum)
		if t.Failed() {
			t.Fatalf("P9.1: of %s", what)
		}
	}
}

// TestNodeOfTheDiskAlone: no pager's fresh page is told.
func TestNodeOfTheDiskAlone(t *testing.T) { // P9.1
	x, d := makePager(t, 4, 4)
	writePage(t, d, 2, leafOf("disk's").Pay())
	mustPut(t, x, leafOf("fresh").Pay(), 2)
	mustBeNode(t, x, 2, leafOf("fresh"))
	mustBeNodeOf(t, d, 2, leafOf("disk's"))
	mustSet(t, x, 2, []byte("no node's"), api.OK)
	mustNotBeNode(t, x, 2, api.Malformed)
	mustBeNodeOf(t, d, 2, leafOf("disk's"))
	x.Drop(2)
	mustBeNode(t, x, 2, leafOf("disk's"))
}

func TestPut(t *testing.T) { // P9.2
	x, _ := makePager(t, 12, 12)
	for i, n := range []int{0, 1, 4, 500, 1010, 1014, 1015, 1016} {
		mustPut(t, x, long(n), 2+i)
	}
	mustHold(t, x, 10, []int{2, 3, 4, 5, 6, 7, 8, 9})
	for i, n := range []int{0, 1, 4, 500, 1010, 1014, 1015, 1016} {
		mustSay(t, x, 2+i, long(n))
	}
	mustPut(t, x, nil, 10)
}

// TestPutOfTooMuch: it is refused ahead of the pool's being asked.
func TestPutOfTooMuch(t *testing.T) { // P9.2
	for _, capacity := range []int{2, 3} {
		x, _ := makePager(t, 4, capacity)
		for _, n := range []int{1017, 1018, 1024, 2032, 65536 + 16} {
			mustNotPut(t, x, long(n), api.Arg)
		}
		mustHold(t, x, 2, nil)
	}
	x, _ := makePager(t, 4, 3)
	mustPut(t, x, nil, 2)
	mustNotPut(t, x, long(1017), api.Arg)
	mustNotPut(t, x, long(1016), api.Full)
	mustHold(t, x, 3, []int{2})
}

func TestPutOfFullPools(t *testing.T) { // P9.2
	for _, capacity := range []int{2, 3, 5, 2048} {
		x, _ := makePager(t, 0, capacity)
		var fresh []int
		for no := 2; no < capacity; no++ {
			if got, e := x.Put(nil); e != api.OK || got != no {
				t.Fatalf("P9.2: Put: %d and code %d, not %d", got, e, no)
			}
			fresh = append(fresh, no)
		}
		mustNotPut(t, x, nil, api.Full)
		mustNotPut(t, x, long(1016), api.Full)
		mustHold(t, x, capacity, fresh)
		if capacity > 2 {
			x.Drop(capacity - 1)
			mustPut(t, x, []byte("again"), capacity-1)
		}
		mustNotPut(t, x, nil, api.Full)
	}
}

// TestPutUpToTheHorizon: pages that were freed above the pager's horizon aren't told.
func TestPutUpToTheHorizon(t *testing.T) { // P9.2
	list := []api.Freed{{Page: 2, Gen: 7}, {Page: 3, Gen: 9}, {Page: 4, Gen: 8}, {Page: 5, Gen: 0}, {Page: 6, Gen: math.MaxUint64}}
	for _, c := range []struct {
		horizon uint64
		want    []int
	}{
		{0, []int{5, 7}},
		{6, []int{5, 7}},
		{7, []int{2, 5, 7}},
		{8, []int{2, 4, 5, 7}},
		{9, []int{2, 3, 4, 5, 7}},
		{1 << 60, []int{2, 3, 4, 5, 7}},
		{math.MaxUint64 - 1, []int{2, 3, 4, 5, 7}},
		{math.MaxUint64, []int{2, 3, 4, 5, 6, 7}},
	} {
		x := pager.New(disk.New(8), makePool(t, 8, 7, list...), 10, c.horizon)
		for _, no := range c.want {
			mustPut(t, x, long(no), no)
		}
		mustNotPut(t, x, nil, api.Full)
		for _, no := range c.want {
			mustSay(t, x, no, long(no))
		}
	}
}

func TestSet(t *testing.T) { // P9.2
	x, _ := makePager(t, 6, 6)
	mustPut(t, x, long(1016), 2)
	mustPut(t, x, []byte("other"), 3)
	for _, n := range []int{1015, 0, 1, 4, 500, 1014, 1016, 0, 1015} {
		mustSet(t, x, 2, long(n), api.OK)
		mustSay(t, x, 2, long(n))
		mustSay(t, x, 3, []byte("other"))
	}
	mustHold(t, x, 4, []int{2, 3})
}

// TestSetOfTooMuch: the page says what it said.
func TestSetOfTooMuch(t *testing.T) { // P9.2
	x, _ := makePager(t, 6, 6)
	mustPut(t, x, []byte("says"), 2)
	for _, n := range []int{1017, 1018, 1024, 2032} {
		mustSet(t, x, 2, long(n), api.Arg)
		mustSet(t, x, 3, long(n), api.Arg)
		mustSay(t, x, 2, []byte("says"))
	}
	mustHold(t, x, 3, []int{2})
}

// TestSetOfAPageThatIsNotFresh: not of the disk's, not of a freed one, and not of one that was fresh.
func TestSetOfAPageThatIsNotFresh(t *testing.T) { // P9.2
	d := disk.New(6)
	x := pager.New(d, makePool(t, 8, 5, api.Freed{Page: 4, Gen: 1}), 5, 3)
	writePage(t, d, 3, []byte("disk's"))
	for _, no := range append(farNumbers, 0, 1, 2, 3, 4, 5, 6, 7) {
		mustSet(t, x, no, []byte("set"), api.Arg)
	}
	mustSay(t, x, 3, []byte("disk's"))
	mustNotSay(t, x, 4)
	mustPut(t, x, []byte("fresh"), 4)
	mustSet(t, x, 4, []byte("set"), api.OK)
	mustSet(t, x, 3, []byte("set"), api.Arg)
	x.Drop(4)
	mustSet(t, x, 4, []byte("set"), api.Arg)
	mustNotSay(t, x, 4)
	mustPut(t, x, []byte("fresh"), 4)
	mustSet(t, x, 4, nil, api.OK)
	mustHold(t, x, 5, []int{4})
}

func TestTheChaptersExample(t *testing.T) { // P9.2
	for _, horizon := range []uint64{0, 1, 4, 5, math.MaxUint64} {
		for _, gen := range []uint64{0, 1, 5, math.MaxUint64} {
			x := pager.New(disk.New(4), makePool(t, 4, 2), gen, horizon)
			mustPut(t, x, []byte("once"), 2)
			x.Drop(2)
			mustHold(t, x, 3, nil, api.Freed{Page: 2})
			mustPut(t, x, []byte("again"), 2)
			mustHold(t, x, 3, []int{2})
		}
	}
}

// TestDropOfOtherPages: a page that isn't fresh is freed in the pager's version.
func TestDropOfOtherPages(t *testing.T) { // P9.2
	for _, gen := range []uint64{0, 1, 5, 1 << 60, math.MaxUint64} {
		x := pager.New(disk.New(4), makePool(t, 8, 6), gen, 0)
		x.Drop(5)
		x.Drop(2)
		mustHold(t, x, 6, nil, api.Freed{Page: 2, Gen: gen}, api.Freed{Page: 5, Gen: gen})
	}
}

// TestDropTwice: the first time counts.
func TestDropTwice(t *testing.T) { // P9.2
	x := pager.New(disk.New(4), makePool(t, 8, 6, api.Freed{Page: 4, Gen: 2}, api.Freed{Page: 3, Gen: 9}), 5, 2)
	mustPut(t, x, nil, 4)
	for range 3 {
		x.Drop(2)
		x.Drop(3)
		x.Drop(4)
		mustHold(t, x, 6, nil, api.Freed{Page: 2, Gen: 5}, api.Freed{Page: 3, Gen: 9}, api.Freed{Page: 4})
	}
}

// TestDropOfWhatThePoolRefuses: nothing comes of it.
func TestDropOfWhatThePoolRefuses(t *testing.T) { // P9.2
	x, d := makePager(t, 10, 10)
	mustPut(t, x, []byte("fresh"), 2)
	for _, no := range append(farNumbers, 0, 1, 3, 4, 9, 10) {
		x.Drop(no)
		mustHold(t, x, 3, []int{2})
	}
	mustSay(t, x, 2, []byte("fresh"))
	mustWait(t, "pages that are dropped", d)
}

// TestDropOfAFreshPageThatIsFreed: it isn't fresh any more, whatever the pool says.
func TestDropOfAFreshPageThatIsFreed(t *testing.T) { // P9.2
	x, _ := makePager(t, 10, 10)
	mustPut(t, x, []byte("fresh"), 2)
	if e := x.Pool().Free(2, 9); e != api.OK {
		t.Fatalf("pool.Free: code %d", e)
	}
	x.Drop(2)
	mustHold(t, x, 3, nil, api.Freed{Page: 2, Gen: 9})
	mustNotSay(t, x, 2)
}

// TestDropBetweenOthers: of the fresh pages just this one goes.
func TestDropBetweenOthers(t *testing.T) { // P9.2
	x, _ := makePager(t, 10, 10)
	for no := 2; no < 7; no++ {
		mustPut(t, x, long(no), no)
	}
	x.Drop(4)
	mustHold(t, x, 7, []int{2, 3, 5, 6}, api.Freed{Page: 4})
	for _, no := range []int{2, 3, 5, 6} {
		mustSay(t, x, no, long(no))
	}
	mustNotSay(t, x, 4)
	mustPut(t, x, []byte("anew"), 4)
	mustPut(t, x, []byte("more"), 7)
}

// TestVersionsAndHorizons: a page that was dropped, and not fresh, may be used anew just if the horizon isn't below the version.
func TestVersionsAndHorizons(t *testing.T) { // P9.2, P9.5
	for _, c := range []struct {
		gen, horizon uint64
		told         bool
	}{
		{0, 0, true}, {1, 0, false}, {4, 5, true}, {5, 5, true}, {6, 5, false},
		{math.MaxUint64, math.MaxUint64 - 1, false}, {math.MaxUint64, math.MaxUint64, true}, {1 << 63, 1<<63 - 1, false}, {1<<63 - 1, 1 << 63, true},
	} {
		x := pager.New(disk.New(8), makePool(t, 6, 4), c.gen, c.horizon)
		x.Drop(2)
		if c.told {
			mustPut(t, x, nil, 2)
		}
		mustPut(t, x, nil, 4)
		mustPut(t, x, nil, 5)
		mustNotPut(t, x, nil, api.Full)
		// What was told and is fresh now may be used at once, if it is dropped.
		x.Drop(5)
		mustPut(t, x, nil, 5)
		if c.told {
			x.Drop(2)
			mustPut(t, x, nil, 2)
		} else {
			mustHold(t, x, 6, []int{4, 5}, api.Freed{Page: 2, Gen: c.gen})
		}
	}
}

// TestFreshPagesRise: in whatever order they were put.
func TestFreshPagesRise(t *testing.T) { // P9.4
	x := pager.New(disk.New(2048), makePool(t, 2048, 1025), 5, 3)
	mustHold(t, x, 1025, nil)
	for no := 1025; no < 1040; no++ {
		mustPut(t, x, nil, no)
	}
	for no := 2; no < 500; no += 3 {
		x.Pool().Free(no, 3)
	}
	var want []int
	for no := 2; no < 500; no += 3 {
		mustPut(t, x, nil, no)
		want = append(want, no)
	}
	for no := 1025; no < 1040; no++ {
		want = append(want, no)
	}
	mustHold(t, x, 1040, want)
	mustFlush(t, x, api.OK)
}

func TestFlush(t *testing.T) { // P9.4
	d := disk.New(10)
	x := pager.New(d, makePool(t, 10, 8, api.Freed{Page: 6, Gen: 1}, api.Freed{Page: 4, Gen: 2}), 5, 3)
	writePage(t, d, 7, []byte("disk's"))
	d.Sync()
	mustPut(t, x, []byte("four"), 4)
	mustPut(t, x, []byte("six"), 6)
	mustPut(t, x, nil, 8)
	mustPut(t, x, long(1016), 9)
	x.Drop(7)
	x.Drop(6)
	mustSet(t, x, 4, []byte("four anew"), api.OK)
	mustWait(t, "nothing flushed", d)
	mustFlush(t, x, api.OK)
	mustWait(t, "flushed", d, 4, 8, 9)
	for no, says := range map[int][]byte{4: []byte("four anew"), 7: []byte("disk's"), 8: nil, 9: long(1016)} {
		b, _ := d.Read(no)
		if got, e := page.Open(no, b); e != api.OK || !bytes.Equal(got, filled(says)) {
			t.Errorf("P9.4: the disk's page %d: code %d, or it says something else", no, e)
		}
	}
	for _, no := range []int{0, 1, 2, 3, 5, 6} {
		if b, _ := d.Read(no); !bytes.Equal(b, make([]byte, 1024)) {
			t.Errorf("P9.4: the disk's page %d was written", no)
		}
	}
	if d.Crash(nil, -1); !bytes.Equal(d.Safe(4), make([]byte, 1024)) {
		t.Error("P9.4: a flush made something safe")
	}
}

// TestFlushAgain: what is fresh stays so, and is written anew, as it says now.
func TestFlushAgain(t *testing.T) { // P9.4
	x, d := makePager(t, 6, 6)
	mustPut(t, x, []byte("two"), 2)
	mustPut(t, x, []byte("three"), 3)
	mustFlush(t, x, api.OK)
	mustHold(t, x, 4, []int{2, 3})
	mustSet(t, x, 2, leafOf("two").Pay(), api.OK)
	mustPut(t, x, branchOf().Pay(), 4)
	x.Drop(3)
	mustHold(t, x, 5, []int{2, 4}, api.Freed{Page: 3})
	mustSay(t, x, 3, []byte("three")) // the disk's page
	mustFlush(t, x, api.OK)
	mustWait(t, "flushed twice", d, 2, 3, 2, 4)
	mustBeNodeOf(t, d, 2, leafOf("two"))
	mustBeNodeOf(t, d, 4, branchOf())
}

// TestFlushWithThePowerGoing: in each act, and in none.
func TestFlushWithThePowerGoing(t *testing.T) { // P9.4
	const count = 6
	for n := range count + 2 {
		x, d := makePager(t, 8, 8)
		var fresh []int
		for no := 2; no < 2+count; no++ {
			mustPut(t, x, long(no), no)
			fresh = append(fresh, no)
		}
		d.Arm(n)
		if n == 0 || n > count {
			mustFlush(t, x, api.OK)
			mustWait(t, "the power didn't go", d, fresh...)
			if d.Down() {
				t.Errorf("P9.4: a flush of %d pages has %d acts", count, n)
			}
			continue
		}
		mustFlush(t, x, api.Down)
		mustWait(t, "the power went", d, fresh[:n]...)
		mustFlush(t, x, api.Down)
		mustWait(t, "the power is gone", d, fresh[:n]...)
		mustHold(t, x, 2+count, fresh)
		for _, no := range fresh {
			mustSay(t, x, no, long(no))
		}
		d.Crash(nil, -1)
		mustFlush(t, x, api.OK)
		mustWait(t, "the power came again", d, fresh...)
	}
}

// TestFlushOfNothingWithoutPower: nothing is written, so that no act tells of the power.
func TestFlushOfNothingWithoutPower(t *testing.T) { // P9.4
	x, d := makePager(t, 8, 8)
	d.Arm(1)
	d.Sync()
	mustFlush(t, x, api.OK)
	mustPut(t, x, nil, 2)
	mustFlush(t, x, api.Down)
	x.Drop(2)
	mustFlush(t, x, api.OK)
}

// TestFlushBeyondTheDisk: a pool may tell pages that the disk hasn't.
func TestFlushBeyondTheDisk(t *testing.T) { // P9.4
	for _, pages := range []int{0, 1, 2} {
		x, d := makePager(t, pages, 4)
		mustFlush(t, x, api.OK)
		mustPut(t, x, []byte("two"), 2)
		d.Arm(1)
		mustFlush(t, x, api.Arg)
		mustWait(t, "no page to write", d)
		if d.Down() {
			t.Error("P9.4: an act was done on a page that there isn't")
		}
		mustHold(t, x, 3, []int{2})
		mustSay(t, x, 2, []byte("two"))
	}
	x, d := makePager(t, 4, 6)
	for no := 2; no < 6; no++ {
		mustPut(t, x, nil, no)
	}
	mustFlush(t, x, api.Arg)
	x.Drop(5)
	mustFlush(t, x, api.Arg)
	x.Drop(4)
	mustFlush(t, x, api.OK)
	mustPut(t, x, nil, 4)
	d.Arm(1)
	mustFlush(t, x, api.Down)
}

// TestTheDiskIsNotTouched: no call but Flush does anything to it.
func TestTheDiskIsNotTouched(t *testing.T) { // P9.5
	d := disk.New(10)
	writePage(t, d, 4, leafOf("disk's").Pay())
	writePage(t, d, 5, node.Link(0, []byte("disk's")))
	d.Sync()
	writePage(t, d, 3, []byte("waits"))
	before := make([][]byte, 10)
	for no := range before {
		before[no], _ = d.Read(no)
	}
	d.Arm(1)
	x := pager.New(d, makePool(t, 20, 7), 5, 9)
	x.Put([]byte("fresh"))
	x.Put(leafOf("fresh").Pay())
	x.Set(7, []byte("anew"))
	x.Set(4, []byte("anew"))
	x.PutChain(long(3000))
	x.PutChain(long(16384))
	for no := -1; no < 12; no++ {
		x.Read(no)
		x.Node(no)
		pager.Node(d, no)
		x.Chain(no, 6)
		x.DropChain(no, 6)
		x.Drop(no)
	}
	x.Put([]byte("in place of the disk's"))
	x.Fresh()
	x.Pool()
	mustWait(t, "nothing flushed", d, 3)
	if d.Down() {
		t.Error("P9.5: an act was done")
	}
	for no := range before {
		if b, _ := d.Read(no); !bytes.Equal(b, before[no]) {
			t.Errorf("P9.5: the disk's page %d was touched", no)
		}
	}
}

// TestPagersAreApart: on one disk, with one pool, each has its own fresh pages.
func TestPagersAreApart(t *testing.T) { // P9.1
	d, p := disk.New(8), makePool(t, 8, 2)
	x, y := pager.New(d, p, 5, 3), pager.New(d, p, 6, 4)
	mustPut(t, x, []byte("x's"), 2)
	mustNotSay(t, y, 2)
	mustHold(t, y, 2, nil)
	mustPut(t, y, []byte("y's"), 2)
	mustSay(t, x, 2, []byte("x's"))
	mustFlush(t, y, api.OK)
	mustSay(t, x, 2, []byte("x's"))
	x.Drop(2)
	mustSay(t, x, 2, []byte("y's"))
	z := pager.New(d, x.Pool(), 7, 3)
	mustHold(t, z, 3, nil, api.Freed{Page: 2})
	mustPut(t, z, nil, 2)
	mustHold(t, x, 3, nil, api.Freed{Page: 2})
}
