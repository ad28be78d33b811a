package pager_test

import (
	"bytes"
	"math"
	"slices"
	"testing"

	"cambium/api"
	"cambium/disk"
	"cambium/node"
	"cambium/pager"
)

// lengths: those of values at the edges of chains' pages.
var lengths = []int{1, 2, 6, 1009, 1010, 1011, 2019, 2020, 2021, 3030, 16159, 16160, 16161, 16383, 16384}

// mustChain: the chain has these bytes, and stands on these pages.
func mustChain(t *testing.T, x *pager.Pager, head int, val []byte, pages ...int) {
	t.Helper()
	got, on, e := x.Chain(head, len(val))
	if e != api.OK || !bytes.Equal(got, val) || !slices.Equal(on, pages) {
		t.Errorf("P9.3: Chain(%d, %d): code %d, %d bytes and pages %v, not pages %v", head, len(val), e, len(got), on, pages)
	}
}

// mustNotChain: both calls that read a chain refuse it, and nothing comes of it.
func mustNotChain(t *testing.T, x *pager.Pager, head, size int, want api.Code) {
	t.Helper()
	if got, on, e := x.Chain(head, size); e != want || len(got) != 0 || len(on) != 0 {
		t.Errorf("P9.3: Chain(%d, %d): code %d, %d bytes and pages %v, not code %d and none", head, size, e, len(got), on, want)
	}
	high, fresh, freed := x.Pool().High(), x.Fresh(), x.Pool().List()
	if e := x.DropChain(head, size); e != want {
		t.Errorf("P9.3: DropChain(%d, %d): code %d, not %d", head, size, e, want)
	}
	mustHold(t, x, high, fresh, freed...)
}

// mustPutChain: the value comes to a chain that begins here.
func mustPutChain(t *testing.T, x *pager.Pager, val []byte, want int) {
	t.Helper()
	if head, e := x.PutChain(val); e != api.OK || head != want {
		t.Fatalf("P9.3: PutChain of %d bytes: %d and code %d, not %d", len(val), head, e, want)
	}
}

// mustNotPutChain: the value is refused.
func mustNotPutChain(t *testing.T, x *pager.Pager, val []byte, want api.Code) {
	t.Helper()
	if head, e := x.PutChain(val); e != want || head != 0 {
		t.Errorf("P9.3: PutChain of %d bytes: %d and code %d, not 0 and code %d", len(val), head, e, want)
	}
}

// downFrom: pages from one on, each one less.
func downFrom(no, n int) []int {
	var out []int
	for i := range n {
		out = append(out, no-i)
	}
	return out
}

// linkPages: disk's pages, each of which has so many bytes and leads to the next; those bytes.
func linkPages(t *testing.T, d *disk.Disk, pages []int, each ...int) []byte {
	t.Helper()
	var val []byte
	for i, no := range pages {
		next := 0
		if i+1 < len(pages) {
			next = pages[i+1]
		}
		part := long(each[i])
		writePage(t, d, no, node.Link(next, part))
		val = append(val, part...)
	}
	return val
}

func TestPutChain(t *testing.T) { // P9.3
	for _, n := range lengths {
		val := long(n)
		count := (n + 1009) / 1010
		x, d := makePager(t, 20, 20)
		head := 1 + count
		mustPutChain(t, x, val, head)
		mustChain(t, x, head, val, downFrom(head, count)...)
		fresh := downFrom(head, count)
		slices.Reverse(fresh)
		mustHold(t, x, head+1, fresh)
		for i, no := range downFrom(head, count) {
			next := no - 1
			if next < 2 {
				next = 0
			}
			mustSay(t, x, no, node.Link(next, val[i*1010:min(n, i*1010+1010)]))
		}
		mustFlush(t, x, api.OK)
		mustChain(t, pager.New(d, x.Pool(), 6, 5), head, val, downFrom(head, count)...)
	}
}

func TestKnownBytesOfAChain(t *testing.T) { // P9.3
	x, _ := makePager(t, 20, 20)
	val := bytes.Repeat([]byte("abc"), 340) // 1020 bytes: 1010 and 10
	mustPutChain(t, x, val, 3)
	mustSay(t, x, 3, append([]byte{0, 0, 0, 2, 3, 242}, val[:1010]...))
	mustSay(t, x, 2, []byte("\x00\x00\x00\x00\x00\x0acabcabcabc"))
}

func TestPutChainOfWhatMayNotBe(t *testing.T) { // P9.3
	x, _ := makePager(t, 40, 40)
	mustNotPutChain(t, x, nil, api.Arg)
	mustNotPutChain(t, x, []byte{}, api.Arg)
	for _, n := range []int{16385, 16386, 17170, 20000, 65536, 1 << 20} {
		mustNotPutChain(t, x, long(n), api.Arg)
	}
	mustHold(t, x, 2, nil)
	// Arg is told ahead of Full.
	x, _ = makePager(t, 40, 2)
	mustNotPutChain(t, x, nil, api.Arg)
	mustNotPutChain(t, x, long(16385), api.Arg)
	mustNotPutChain(t, x, long(1), api.Full)
	mustHold(t, x, 2, nil)
}

// TestPutChainByThePool: the last page is put first, on the least page that there is.
func TestPutChainByThePool(t *testing.T) { // P9.3
	list := []api.Freed{{Page: 9, Gen: 3}, {Page: 4, Gen: 1}, {Page: 6, Gen: 4}}
	x := pager.New(disk.New(20), makePool(t, 20, 10, list...), 5, 3)
	val := long(3031)
	mustPutChain(t, x, val, 11)
	mustChain(t, x, 11, val, 11, 10, 9, 4)
	mustHold(t, x, 12, []int{4, 9, 10, 11}, api.Freed{Page: 6, Gen: 4})
}

// TestPutChainOfAFullPool: what was put is dropped, wherever the pool ends.
func TestPutChainOfAFullPool(t *testing.T) { // P9.3
	for _, n := range lengths {
		count := (n + 1009) / 1010
		for room := range count {
			x, d := makePager(t, 20, 3+room)
			mustPut(t, x, []byte("before"), 2)
			mustNotPutChain(t, x, long(n), api.Full)
			var freed []api.Freed
			for i := range room {
				freed = append(freed, api.Freed{Page: 3 + i})
				mustNotSay(t, x, 3+i)
			}
			mustHold(t, x, 3+room, []int{2}, freed...)
			mustSay(t, x, 2, []byte("before"))
			if room > 0 {
				mustPutChain(t, x, long(room*1010), 2+room)
			}
			mustWait(t, "chains that were put", d)
		}
		x, _ := makePager(t, 20, 3+count)
		mustPut(t, x, []byte("before"), 2)
		mustPutChain(t, x, long(n), 2+count)
	}
}

// TestPutChainAmidFreedPages: those that were put are freed in version 0, whatever they were freed in before.
func TestPutChainAmidFreedPages(t *testing.T) { // P9.3
	list := []api.Freed{{Page: 2, Gen: 3}, {Page: 3, Gen: 4}, {Page: 5, Gen: 1}}
	x := pager.New(disk.New(8), makePool(t, 7, 6, list...), 5, 3)
	mustNotPutChain(t, x, long(3031), api.Full)
	mustHold(t, x, 7, nil, api.Freed{Page: 2}, api.Freed{Page: 3, Gen: 4}, api.Freed{Page: 5}, api.Freed{Page: 6})
	mustPutChain(t, x, long(3030), 6)
	mustChain(t, x, 6, long(3030), 6, 5, 2)
}

// TestChainOfNoPages: the page 0 ends it ahead of all.
func TestChainOfNoPages(t *testing.T) { // P9.3
	x, d := makePager(t, 8, 8)
	for range 2 {
		mustChain(t, x, 0, nil)
		if e := x.DropChain(0, 0); e != api.OK {
			t.Errorf("P9.3: DropChain(0, 0): code %d", e)
		}
		for _, size := range []int{math.MinInt, -1011, -1010, -1, 1, 1010, 1011, 16384, math.MaxInt} {
			mustNotChain(t, x, 0, size, api.Malformed)
		}
		// Also where the page 0 says one.
		writePage(t, d, 0, node.Link(0, []byte("x")))
	}
}

// TestChainOfOtherSizes: one less, one more, as many pages as need be and one more.
func TestChainOfOtherSizes(t *testing.T) { // P9.3
	for _, n := range lengths {
		x, _ := makePager(t, 20, 20)
		head, _ := x.PutChain(long(n))
		for _, size := range []int{
			math.MinInt, -n, -2, -1, 0, 1, n - 2, n - 1, n + 1, n + 2, n - 1010, n + 1010, n - 1009, n + 1009, n / 1010 * 1010,
			(n + 1009) / 1010 * 1010, (n+1009)/1010*1010 + 1, 16385, 1 << 20, n + 1<<16, n + 1<<32, math.MaxInt - 1, math.MaxInt,
		} {
			if size != n {
				mustNotChain(t, x, head, size, api.Malformed)
			}
		}
		val, _, e := x.Chain(head, n)
		if e != api.OK || !bytes.Equal(val, long(n)) {
			t.Errorf("P9.3: Chain(%d, %d): code %d", head, n, e)
		}
	}
}

// TestChainOfAnyParts: its pages may have fewer bytes than there is room for, if there are no more pages than need be.
func TestChainOfAnyParts(t *testing.T) { // P9.3
	for _, c := range []struct {
		each []int
		ok   bool
	}{
		{[]int{1}, true}, {[]int{1010}, true}, {[]int{1, 1010}, true}, {[]int{1010, 1}, true}, {[]int{505, 506}, true}, {[]int{1010, 1010}, true},
		{[]int{505, 505}, false}, {[]int{1, 1}, false}, {[]int{1, 1009}, false}, {[]int{1009, 1}, false}, {[]int{505, 505, 1}, false},
		{[]int{1010, 1, 1010}, true}, {[]int{1, 1010, 1010}, true}, {[]int{1010, 1009, 1}, false}, {[]int{700, 700, 700}, true}, {[]int{700, 700, 620}, false},
		{[]int{1010, 1010, 1010, 1010, 1}, true}, {[]int{1010, 1010, 1010, 1009, 1}, false},
	} {
		x, d := makePager(t, 20, 20)
		pages := []int{9, 3, 17, 2, 5}[:len(c.each)]
		val := linkPages(t, d, pages, c.each...)
		if c.ok {
			mustChain(t, x, 9, val, pages...)
		} else {
			mustNotChain(t, x, 9, len(val), api.Malformed)
		}
		mustNotChain(t, x, 9, len(val)-1, api.Malformed)
		mustNotChain(t, x, 9, len(val)+1, api.Malformed)
	}
}

// TestNoPageIsReadBehindTheSize: a page that couldn't be read is Malformed there, since it isn't read.
func TestNoPageIsReadBehindTheSize(t *testing.T) { // P9.3
	x, d := makePager(t, 20, 20)
	linkPages(t, d, []int{5, 6, 7, 8}, 1010, 500, 600, 1)
	tearPage(t, d, 7)
	for _, size := range []int{math.MinInt, -1, 0, 1, 1009, 1010, 1011, 1509, 1510, 1511, 2019, 2020} {
		mustNotChain(t, x, 5, size, api.Malformed) // as many bytes, or as many pages
	}
	for _, size := range []int{2021, 2110, 2111, 3030, 3031, 16384, math.MaxInt} {
		mustNotChain(t, x, 5, size, api.Sum)
	}
	writePage(t, d, 7, []byte("no chain's"))
	for _, size := range []int{1510, 2020, 2021, math.MaxInt} {
		mustNotChain(t, x, 5, size, api.Malformed)
	}
	tearPage(t, d, 5)
	for _, size := range []int{math.MinInt, -1, 0} {
		mustNotChain(t, x, 5, size, api.Malformed)
	}
	for _, size := range []int{1, 1010, 2111, math.MaxInt} {
		mustNotChain(t, x, 5, size, api.Sum)
	}
}

// TestChainOfPagesThatThereArent: they are Sum, but ahead of being read Malformed.
func TestChainOfPagesThatThereArent(t *testing.T) { // P9.3
	x, d := makePager(t, 8, 8)
	for _, no := range append(farNumbers, 1, 2, 7, 8, 9) {
		for _, size := range []int{math.MinInt, -1010, -1, 0} {
			mustNotChain(t, x, no, size, api.Malformed)
		}
		for _, size := range []int{1, 1010, 1011, 16384, 1 << 32, math.MaxInt} {
			mustNotChain(t, x, no, size, api.Sum)
		}
	}
	for _, next := range []int{1, 7, 8, 2047, 2048, 1<<31 - 1} {
		writePage(t, d, 2, node.Link(next, long(1010)))
		mustNotChain(t, x, 2, 1010, api.Malformed)
		mustNotChain(t, x, 2, 1011, api.Sum)
	}
}

// TestChainOfOtherPages: such as aren't a chain's.
func TestChainOfOtherPages(t *testing.T) { // P9.3
	for what, says := range map[string][]byte{
		"nothing":       nil,
		"a leaf":        leafOf("v").Pay(),
		"no bytes":      {0, 0, 0, 3, 0, 0},
		"too many":      append([]byte{0, 0, 0, 3, 3, 243}, long(1010)...),
		"a byte behind": {0, 0, 0, 3, 0, 1, 'x', 'y'},
		"a next beyond": {128, 0, 0, 3, 0, 1, 'x'},
	} {
		x, d := makePager(t, 8, 8)
		mustPut(t, x, says, 2)
		writePage(t, d, 6, says)
		linkPages(t, d, []int{7, 6}, 1010, 1)
		writePage(t, d, 6, says)
		for _, size := range []int{1, 2, 1010, 1011, 16384, math.MaxInt} {
			mustNotChain(t, x, 2, size, api.Malformed)
			mustNotChain(t, x, 6, size, api.Malformed)
			mustNotChain(t, x, 7, size, api.Malformed)
		}
		tearPage(t, d, 6)
		mustNotChain(t, x, 6, 1, api.Sum)
		mustNotChain(t, x, 7, 1011, api.Sum)
		if t.Failed() {
			t.Fatalf("P9.3: of %s", what)
		}
	}
}

// TestChainsThatLeadToThemselves: they end, whatever the size.
func TestChainsThatLeadToThemselves(t *testing.T) { // P9.3
	sizes := []int{math.MinInt, -1, 0, 1, 2, 9, 10, 11, 1009, 1010, 1011, 2020, 2021, 3030, 3031, 16384, 1 << 31, math.MaxInt}
	for _, each := range []int{1, 1010} {
		for _, loop := range [][]int{{5, 5}, {5, 6, 5}, {5, 6, 6}, {5, 6, 7, 5}, {5, 6, 7, 6}, {5, 6, 7, 7}, {1, 1}} {
			x, d := makePager(t, 8, 8)
			for i, no := range loop[:len(loop)-1] {
				writePage(t, d, no, node.Link(loop[i+1], long(each)))
			}
			for _, size := range append(sizes, each, 2*each, 3*each, 4*each, 1000*each) {
				mustNotChain(t, x, loop[0], size, api.Malformed)
			}
		}
	}
	x, _ := makePager(t, 8, 8)
	mustPut(t, x, node.Link(2, []byte("fresh")), 2)
	for _, size := range sizes {
		mustNotChain(t, x, 2, size, api.Malformed)
	}
}

// TestChainOfAllPages: a chain may be longer than a value may be, up to all pages that can be read.
func TestChainOfAllPages(t *testing.T) { // P9.3
	x, d := makePager(t, 2048, 2048)
	var pages, each []int
	for no := 2047; no > 0; no-- {
		pages, each = append(pages, no), append(each, 1010)
	}
	val := linkPages(t, d, pages, each...)
	mustChain(t, x, 2047, val, pages...)
	mustChain(t, x, 17, val[2030*1010:], downFrom(17, 17)...)
	mustNotChain(t, x, 2047, len(val)-1, api.Malformed)
	mustNotChain(t, x, 2047, len(val)+1, api.Malformed)
	mustNotChain(t, x, 2047, math.MaxInt, api.Malformed)
}

func TestDropChain(t *testing.T) { // P9.3
	for _, n := range lengths {
		x, d := makePager(t, 20, 20)
		mustPut(t, x, []byte("other"), 2)
		head, _ := x.PutChain(long(n))
		mustNotChain(t, x, head, n-1, api.Malformed)
		y := pager.New(d, x.Pool(), 6, 4)
		mustFlush(t, x, api.OK)
		var fresh, old []api.Freed
		for no := 3; no <= head; no++ {
			fresh, old = append(fresh, api.Freed{Page: no}), append(old, api.Freed{Page: no, Gen: 6})
		}
		if e := x.DropChain(head, n); e != api.OK {
			t.Errorf("P9.3: DropChain(%d, %d): code %d", head, n, e)
		}
		mustHold(t, x, head+1, []int{2}, fresh...)
		if e := y.DropChain(head, n); e != api.OK {
			t.Errorf("P9.3: DropChain(%d, %d): code %d", head, n, e)
		}
		mustHold(t, y, head+1, nil, old...)
		// The disk's pages are there still, and what the pool refuses is nothing.
		if e := y.DropChain(head, n); e != api.OK {
			t.Errorf("P9.3: DropChain(%d, %d) again: code %d", head, n, e)
		}
		mustHold(t, y, head+1, nil, old...)
	}
}

// TestDropChainOfBothKinds: of its pages some are fresh, others the disk's.
func TestDropChainOfBothKinds(t *testing.T) { // P9.3
	d := disk.New(10)
	x := pager.New(d, makePool(t, 10, 8), 5, 3)
	val := linkPages(t, d, []int{7, 3}, 1010, 9)
	mustPut(t, x, node.Link(7, long(1010)), 8)
	mustPut(t, x, []byte("other"), 9)
	val = append(long(1010), val...)
	mustChain(t, x, 8, val, 8, 7, 3)
	if e := x.DropChain(8, len(val)); e != api.OK {
		t.Errorf("P9.3: DropChain: code %d", e)
	}
	mustHold(t, x, 10, []int{9}, api.Freed{Page: 3, Gen: 5}, api.Freed{Page: 7, Gen: 5}, api.Freed{Page: 8})
}

// TestDropChainOfNoTreesPages: pages that the pool refuses are nothing.
func TestDropChainOfNoTreesPages(t *testing.T) { // P9.3
	x, d := makePager(t, 10, 10)
	val := linkPages(t, d, []int{1, 6}, 1010, 9)
	if e := x.DropChain(1, len(val)); e != api.OK {
		t.Errorf("P9.3: DropChain: code %d", e)
	}
	mustHold(t, x, 2, nil)
	mustChain(t, x, 1, val, 1, 6)
}

// TestManyChains: side by side, each is its own.
func TestManyChains(t *testing.T) { // P9.3, P9.5
	x, d := makePager(t, 200, 200)
	heads := map[int]int{}
	for _, n := range lengths {
		head, e := x.PutChain(long(n))
		if e != api.OK {
			t.Fatalf("P9.3: PutChain of %d bytes: code %d", n, e)
		}
		heads[n] = head
	}
	for i, n := range lengths {
		if i%2 == 0 {
			if e := x.DropChain(heads[n], n); e != api.OK {
				t.Errorf("P9.3: DropChain(%d, %d): code %d", heads[n], n, e)
			}
			heads[n], _ = x.PutChain(long(n))
		}
	}
	mustFlush(t, x, api.OK)
	for _, y := range []*pager.Pager{x, pager.New(d, x.Pool(), 6, 6)} {
		for _, n := range lengths {
			if val, _, e := y.Chain(heads[n], n); e != api.OK || !bytes.Equal(val, long(n)) {
				t.Errorf("P9.5: Chain(%d, %d): code %d", heads[n], n, e)
			}
		}
	}
}
