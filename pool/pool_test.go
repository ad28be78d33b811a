package pool_test

import (
	"bytes"
	"encoding/binary"
	"math"
	"math/rand"
	"slices"
	"testing"

	"cambium/api"
	"cambium/pool"
)

// plain is a pool by the chapter's words: a row that says of each page whether it is freed, and in which version.
type plain struct {
	capacity int
	rows     []plainRow // as many as the high mark
}

type plainRow struct {
	freed bool
	gen   uint64
}

// newPlain: such a pool, of a list that is known to be right.
func newPlain(capacity, high int, list []api.Freed) *plain {
	p := &plain{capacity, make([]plainRow, high)}
	for _, f := range list {
		p.rows[f.Page] = plainRow{true, f.Gen}
	}
	return p
}

func (p *plain) alloc(horizon uint64) (int, api.Code) {
	for no, row := range p.rows {
		if row.freed && row.gen <= horizon {
			p.rows[no] = plainRow{}
			return no, api.OK
		}
	}
	if len(p.rows) == p.capacity {
		return 0, api.Full
	}
	p.rows = append(p.rows, plainRow{})
	return len(p.rows) - 1, api.OK
}

func (p *plain) free(no int, gen uint64) api.Code {
	switch {
	case no < 2, no >= len(p.rows):
		return api.Arg
	case p.rows[no].freed:
		return api.Exists
	}
	p.rows[no] = plainRow{true, gen}
	return api.OK
}

func (p *plain) trim(horizon uint64) int {
	n := 0
	for len(p.rows) > 2 && p.rows[len(p.rows)-1].freed && p.rows[len(p.rows)-1].gen <= horizon {
		p.rows = p.rows[:len(p.rows)-1]
		n++
	}
	return n
}

func (p *plain) clone() *plain { return &plain{p.capacity, slices.Clone(p.rows)} }

func (p *plain) list() []api.Freed {
	var out []api.Freed
	for no, row := range p.rows {
		if row.freed {
			out = append(out, api.Freed{Page: no, Gen: row.gen})
		}
	}
	return out
}

// plainMay: whether these may be a pool's, each page held against each other.
func plainMay(capacity, high int, list []api.Freed) bool {
	if high < 2 || high > capacity || capacity > 2048 {
		return false
	}
	for i, f := range list {
		if f.Page < 2 || f.Page >= high {
			return false
		}
		for _, g := range list[:i] {
			if f.Page == g.Page {
				return false
			}
		}
	}
	return true
}

// plainSays: what a page says with these numbers, be they a piece's or not; at least 1016 bytes.
func plainSays(count uint16, next uint32, rows ...plainSaid) []byte {
	out := binary.BigEndian.AppendUint16(nil, count)
	out = binary.BigEndian.AppendUint32(out, next)
	for _, r := range rows {
		out = binary.BigEndian.AppendUint32(out, r.no)
		out = binary.BigEndian.AppendUint64(out, r.gen)
	}
	return append(out, make([]byte, max(0, 1016-len(out)))...)
}

type plainSaid struct {
	no  uint32
	gen uint64
}

// saysOf: what the page of a piece says, filled up, and how many bytes of it say something.
func saysOf(list []api.Freed, next int) ([]byte, int) {
	var rows []plainSaid
	for _, f := range list {
		rows = append(rows, plainSaid{uint32(f.Page), f.Gen})
	}
	return plainSays(uint16(len(list)), uint32(next), rows...), 6 + 12*len(list)
}

// freedRow: n freed pages from a page on, each with a version of its own.
func freedRow(from, n int) []api.Freed {
	var out []api.Freed
	for i := range n {
		out = append(out, api.Freed{Page: from + i, Gen: uint64(from+i) * 0x0102030405})
	}
	return out
}

// mustMake: a pool of these.
func mustMake(t *testing.T, capacity, high int, list ...api.Freed) *pool.Pool {
	t.Helper()
	p, e := pool.New(capacity, high, list)
	if e != api.OK || p == nil {
		t.Fatalf("P7.1: New(%d, %d, %v): code %d", capacity, high, list, e)
	}
	mustBe(t, "P7.1: a new pool", p, newPlain(capacity, high, list))
	return p
}

// mustRefuse: these are no pool's.
func mustRefuse(t *testing.T, capacity, high int, list ...api.Freed) {
	t.Helper()
	if p, e := pool.New(capacity, high, list); e != api.Arg || p != nil {
		t.Errorf("P7.1: New(%d, %d, %v): code %d and %v, not Arg and none", capacity, high, list, e, p)
	}
}

// mustBe: the pool tells what the plain one tells.
func mustBe(t *testing.T, what string, p *pool.Pool, want *plain) {
	t.Helper()
	if got := p.High(); got != len(want.rows) {
		t.Fatalf("%s: high mark %d, not %d", what, got, len(want.rows))
	}
	if got := p.List(); !slices.Equal(got, want.list()) {
		t.Fatalf("%s: list %v, not %v", what, got, want.list())
	}
}

// mustAlloc: Alloc tells this page, or this code and no page.
func mustAlloc(t *testing.T, p *pool.Pool, horizon uint64, want int, code api.Code) {
	t.Helper()
	if no, e := p.Alloc(horizon); no != want || e != code {
		t.Fatalf("P7.2: Alloc(%d): %d and code %d, not %d and %d", horizon, no, e, want, code)
	}
}

// mustFree: Free answers this code.
func mustFree(t *testing.T, p *pool.Pool, no int, gen uint64, code api.Code) {
	t.Helper()
	if e := p.Free(no, gen); e != code {
		t.Fatalf("P7.2: Free(%d, %d): code %d, not %d", no, gen, e, code)
	}
}

// mustTrim: Trim takes so many pages, and leaves this high mark.
func mustTrim(t *testing.T, p *pool.Pool, horizon uint64, want, high int) {
	t.Helper()
	if n := p.Trim(horizon); n != want || p.High() != high {
		t.Fatalf("P7.2: Trim(%d): %d, and the high mark %d, not %d and %d", horizon, n, p.High(), want, high)
	}
}

// mustHave: the pool's high mark and list are these.
func mustHave(t *testing.T, p *pool.Pool, high int, list ...api.Freed) {
	t.Helper()
	if got := p.List(); p.High() != high || !slices.Equal(got, list) {
		t.Fatalf("P7.2: high mark %d and list %v, not %d and %v", p.High(), got, high, list)
	}
}

// mustBeMalformed: FromPay refuses it.
func mustBeMalformed(t *testing.T, what string, b []byte) {
	t.Helper()
	if list, next, e := pool.FromPay(b); e != api.Malformed || len(list) != 0 || next != 0 {
		t.Errorf("P7.3: FromPay of %s: %v, %d and code %d, not none, 0 and Malformed", what, list, next, e)
	}
}

// mustRead: FromPay tells these.
func mustRead(t *testing.T, what string, b []byte, list []api.Freed, next int) {
	t.Helper()
	if got, n, e := pool.FromPay(b); e != api.OK || n != next || !slices.Equal(got, list) {
		t.Errorf("P7.3: FromPay of %s: %v, %d and code %d, not %v, %d and OK", what, got, n, e, list, next)
	}
}

func TestNew(t *testing.T) {
	mustMake(t, 2, 2)
	mustMake(t, 3, 2)
	mustMake(t, 3, 3, api.Freed{Page: 2, Gen: 1})
	mustMake(t, 100, 50, api.Freed{Page: 7, Gen: 3}, api.Freed{Page: 20, Gen: 3}, api.Freed{Page: 49, Gen: 1})
	mustMake(t, api.MaxPages, api.MaxPages, freedRow(2, api.MaxPages-2)...)
	if p, e := pool.New(5, 4, []api.Freed{}); e != api.OK || p.High() != 4 || len(p.List()) != 0 {
		t.Errorf("P7.1: New of a list that is empty, not nil: code %d", e)
	}
}

func TestNewAtTheEdgesOfCapacityAndHigh(t *testing.T) {
	for _, c := range []struct {
		capacity, high int
		ok             bool
	}{
		{-1, -1, false}, {-1, 0, false}, {-1, 1, false}, {-1, 2, false},
		{0, -1, false}, {0, 0, false}, {0, 1, false}, {0, 2, false},
		{1, 0, false}, {1, 1, false}, {1, 2, false},
		{2, -1, false}, {2, 0, false}, {2, 1, false}, {2, 2, true}, {2, 3, false},
		{3, 1, false}, {3, 2, true}, {3, 3, true}, {3, 4, false},
		{2047, 1, false}, {2047, 2, true}, {2047, 2047, true}, {2047, 2048, false},
		{2048, -1, false}, {2048, 0, false}, {2048, 1, false}, {2048, 2, true}, {2048, 2047, true}, {2048, 2048, true}, {2048, 2049, false},
		{2049, 1, false}, {2049, 2, false}, {2049, 2048, false}, {2049, 2049, false}, {2049, 2050, false},
		{math.MaxInt, 2, false}, {math.MaxInt, 2048, false}, {math.MaxInt, math.MaxInt, false},
		{math.MinInt, 2, false}, {math.MinInt, math.MinInt, false}, {2048, math.MaxInt, false}, {2048, math.MinInt, false},
		{1<<32 + 5, 5, false}, {5, 1<<32 + 5, false},
	} {
		if c.ok {
			mustMake(t, c.capacity, c.high)
		} else {
			mustRefuse(t, c.capacity, c.high)
		}
	}
}

func TestNewOfListsThatMayNotBe(t *testing.T) {
	for _, high := range []int{2, 3, 10, 2048} {
		for _, no := range []int{math.MinInt, -1 << 32, -2, -1, 0, 1, high, high + 1, 2048, 1 << 31, 1<<32 + 2, math.MaxInt} {
			mustRefuse(t, 2048, high, api.Freed{Page: no, Gen: 1})
			if high > 3 {
				mustRefuse(t, 2048, high, api.Freed{Page: 2, Gen: 1}, api.Freed{Page: no, Gen: 1})
				mustRefuse(t, 2048, high, api.Freed{Page: no, Gen: 1}, api.Freed{Page: 2, Gen: 1})
			}
		}
	}
	// Between the high mark and the capacity there are no pages yet.
	mustRefuse(t, 9, 5, api.Freed{Page: 5, Gen: 1})
	mustRefuse(t, 9, 5, api.Freed{Page: 8, Gen: 1})
	mustMake(t, 9, 6, api.Freed{Page: 5, Gen: 1})
	mustMake(t, 9, 9, api.Freed{Page: 2, Gen: 1}, api.Freed{Page: 8, Gen: 1})
}

func TestNewOfOnePageTwice(t *testing.T) {
	mustRefuse(t, 9, 9, api.Freed{Page: 2}, api.Freed{Page: 2})
	mustRefuse(t, 9, 9, api.Freed{Page: 2, Gen: 1}, api.Freed{Page: 2, Gen: 1})
	mustRefuse(t, 9, 9, api.Freed{Page: 2, Gen: 1}, api.Freed{Page: 2, Gen: 9})
	mustRefuse(t, 9, 9, api.Freed{Page: 8, Gen: 9}, api.Freed{Page: 3, Gen: 1}, api.Freed{Page: 5, Gen: 1}, api.Freed{Page: 8, Gen: 1})
	mustMake(t, 9, 9, api.Freed{Page: 2, Gen: 1}, api.Freed{Page: 3, Gen: 1})
}

// TestNewOfAnyVersions: that a version may be one isn't asked.
func TestNewOfAnyVersions(t *testing.T) {
	for _, gen := range []uint64{0, 1, 1 << 32, 1 << 60, 1<<60 + 1, 1 << 63, math.MaxUint64} {
		p := mustMake(t, 9, 9, api.Freed{Page: 2, Gen: gen})
		mustFree(t, p, 3, gen, api.OK)
		mustHave(t, p, 9, api.Freed{Page: 2, Gen: gen}, api.Freed{Page: 3, Gen: gen})
	}
}

func TestListsInAnyOrder(t *testing.T) {
	falling := freedRow(2, 300)
	slices.Reverse(falling)
	mustMake(t, 400, 302, falling...)
	random := rand.New(rand.NewSource(7))
	for range 50 {
		mixed := freedRow(2, 100)
		random.Shuffle(len(mixed), func(i, j int) { mixed[i], mixed[j] = mixed[j], mixed[i] })
		mustMake(t, 400, 102, mixed...)
	}
}

// TestNewOfAllAround: small pools with lists of up to three pages, all of them.
func TestNewOfAllAround(t *testing.T) {
	for capacity := -1; capacity < 6; capacity++ {
		for high := -1; high < 7; high++ {
			for code := range 7 * 7 * 7 {
				var list []api.Freed
				for _, x := range []int{code % 7, code / 7 % 7, code / 49} {
					if x > 0 {
						list = append(list, api.Freed{Page: x - 1, Gen: uint64(x)})
					}
				}
				if plainMay(capacity, high, list) {
					mustMake(t, capacity, high, list...)
				} else {
					mustRefuse(t, capacity, high, list...)
				}
			}
		}
	}
}

func TestTheChaptersExample(t *testing.T) {
	p := mustMake(t, 5, 4, api.Freed{Page: 2, Gen: 7}, api.Freed{Page: 3, Gen: 9})
	mustAlloc(t, p, 8, 2, api.OK)
	mustAlloc(t, p, 8, 4, api.OK)
	mustAlloc(t, p, 8, 0, api.Full)
	mustAlloc(t, p, 9, 3, api.OK)
	mustHave(t, p, 5)
}

func TestAllocUpToAHorizon(t *testing.T) {
	made := func() *pool.Pool {
		return mustMake(t, 10, 8, api.Freed{Page: 3, Gen: 20}, api.Freed{Page: 5, Gen: 10}, api.Freed{Page: 7, Gen: 10})
	}
	for _, c := range []struct {
		horizon uint64
		want    int
	}{{0, 8}, {9, 8}, {10, 5}, {11, 5}, {19, 5}, {20, 3}, {21, 3}, {1 << 60, 3}, {math.MaxUint64, 3}} {
		p := made()
		mustAlloc(t, p, c.horizon, c.want, api.OK)
		for _, f := range p.List() {
			if f.Page == c.want {
				t.Errorf("P7.2: Alloc(%d) told %d, which is freed still", c.horizon, c.want)
			}
		}
	}
	p := made()
	mustAlloc(t, p, 10, 5, api.OK)
	mustHave(t, p, 8, api.Freed{Page: 3, Gen: 20}, api.Freed{Page: 7, Gen: 10})
	mustAlloc(t, p, 10, 7, api.OK)
	mustHave(t, p, 8, api.Freed{Page: 3, Gen: 20})
	mustAlloc(t, p, 10, 8, api.OK)
	mustHave(t, p, 9, api.Freed{Page: 3, Gen: 20})
	mustAlloc(t, p, 20, 3, api.OK)
	mustHave(t, p, 9)
	mustAlloc(t, p, 20, 9, api.OK)
	mustAlloc(t, p, 20, 0, api.Full)
	mustHave(t, p, 10)
}

func TestHorizonsAtTheEdgesOfTheirBits(t *testing.T) {
	for _, gen := range []uint64{0, 1, 1<<32 - 1, 1 << 32, 1 << 60, 1<<63 - 1, 1 << 63, math.MaxUint64} {
		p := mustMake(t, 3, 3, api.Freed{Page: 2, Gen: gen})
		if gen > 0 {
			mustAlloc(t, p, gen-1, 0, api.Full)
			mustTrim(t, p, gen-1, 0, 3)
		}
		mustAlloc(t, p.Clone(), gen, 2, api.OK)
		mustTrim(t, p.Clone(), gen, 1, 2)
		if gen < math.MaxUint64 {
			mustAlloc(t, p.Clone(), gen+1, 2, api.OK)
			mustTrim(t, p.Clone(), gen+1, 1, 2)
		}
		mustAlloc(t, p, math.MaxUint64, 2, api.OK)
	}
}

func TestAllocWithTheHighMarkAtTheCapacity(t *testing.T) {
	p := mustMake(t, 6, 6, api.Freed{Page: 4, Gen: 5})
	for range 3 {
		mustAlloc(t, p, 4, 0, api.Full)
		mustHave(t, p, 6, api.Freed{Page: 4, Gen: 5})
	}
	mustAlloc(t, p, 5, 4, api.OK)
	for range 3 {
		mustAlloc(t, p, math.MaxUint64, 0, api.Full)
		mustHave(t, p, 6)
	}
	mustFree(t, p, 4, 6, api.OK)
	mustAlloc(t, p, 6, 4, api.OK)
	mustAlloc(t, mustMake(t, 2, 2), 9, 0, api.Full)
}

func TestAllocAgainAndAgain(t *testing.T) {
	for _, capacity := range []int{2, 3, 100, 2048} {
		p := mustMake(t, capacity, 2)
		for no := 2; no < capacity; no++ {
			mustAlloc(t, p, 1, no, api.OK)
			if p.High() != no+1 {
				t.Fatalf("P7.2: behind page %d the high mark is %d", no, p.High())
			}
		}
		for range 3 {
			mustAlloc(t, p, math.MaxUint64, 0, api.Full)
		}
		mustHave(t, p, capacity)
	}
	// All freed ones first, rising, then those of the high mark.
	p := mustMake(t, 2048, 1500, freedRow(2, 1000)...)
	for no := 2; no < 1002; no++ {
		mustAlloc(t, p, math.MaxUint64, no, api.OK)
	}
	for no := 1500; no < 2048; no++ {
		mustAlloc(t, p, math.MaxUint64, no, api.OK)
	}
	mustAlloc(t, p, math.MaxUint64, 0, api.Full)
}

func TestFree(t *testing.T) {
	for _, high := range []int{2, 3, 4, 50, 2048} {
		for _, no := range []int{math.MinInt, -1 << 32, -2, -1, 0, 1, high, high + 1, 2048, 1 << 31, 1<<32 + 2, math.MaxInt} {
			p := mustMake(t, 2048, high)
			mustFree(t, p, no, 1, api.Arg)
			mustHave(t, p, high)
		}
	}
	p := mustMake(t, 60, 50)
	mustFree(t, p, 49, 5, api.OK)
	mustFree(t, p, 2, 7, api.OK)
	mustFree(t, p, 30, 0, api.OK)
	mustHave(t, p, 50, api.Freed{Page: 2, Gen: 7}, api.Freed{Page: 30, Gen: 0}, api.Freed{Page: 49, Gen: 5})
	// The high mark is the edge, not the capacity.
	mustFree(t, p, 50, 5, api.Arg)
	mustFree(t, p, 59, 5, api.Arg)
	mustAlloc(t, p, 0, 30, api.OK)
}

func TestFreeOfWhatIsFreed(t *testing.T) {
	p := mustMake(t, 9, 8, api.Freed{Page: 2, Gen: 3}, api.Freed{Page: 7, Gen: 0})
	for _, gen := range []uint64{0, 2, 3, 4, math.MaxUint64} {
		mustFree(t, p, 2, gen, api.Exists)
		mustFree(t, p, 7, gen, api.Exists)
		mustHave(t, p, 8, api.Freed{Page: 2, Gen: 3}, api.Freed{Page: 7, Gen: 0})
	}
	mustFree(t, p, 5, 6, api.OK)
	mustFree(t, p, 5, 7, api.Exists)
	mustHave(t, p, 8, api.Freed{Page: 2, Gen: 3}, api.Freed{Page: 5, Gen: 6}, api.Freed{Page: 7, Gen: 0})
}

func TestFreeOfWhatWasToldJustBefore(t *testing.T) {
	p := mustMake(t, 9, 4, api.Freed{Page: 3, Gen: 1})
	mustAlloc(t, p, 1, 3, api.OK)
	mustFree(t, p, 3, 8, api.OK)
	mustHave(t, p, 4, api.Freed{Page: 3, Gen: 8})
	mustFree(t, p, 4, 8, api.Arg)
	mustAlloc(t, p, 7, 4, api.OK)
	mustFree(t, p, 4, 2, api.OK)
	mustFree(t, p, 4, 2, api.Exists)
	mustHave(t, p, 5, api.Freed{Page: 3, Gen: 8}, api.Freed{Page: 4, Gen: 2})
	mustAlloc(t, p, 7, 4, api.OK)
	mustAlloc(t, p, 8, 3, api.OK)
}

func TestTrim(t *testing.T) {
	p := mustMake(t, 12, 10, api.Freed{Page: 2, Gen: 1}, api.Freed{Page: 8, Gen: 1})
	mustTrim(t, p, math.MaxUint64, 0, 10)
	mustHave(t, p, 10, api.Freed{Page: 2, Gen: 1}, api.Freed{Page: 8, Gen: 1})
	mustFree(t, p, 9, 6, api.OK)
	mustTrim(t, p, 5, 0, 10)
	mustHave(t, p, 10, api.Freed{Page: 2, Gen: 1}, api.Freed{Page: 8, Gen: 1}, api.Freed{Page: 9, Gen: 6})
	mustTrim(t, p.Clone(), 7, 2, 8)
	mustTrim(t, p, 6, 2, 8)
	mustHave(t, p, 8, api.Freed{Page: 2, Gen: 1})
	mustTrim(t, p, 6, 0, 8)
	// Pages that aren't there any more can't be freed, and are told anew.
	mustFree(t, p, 8, 6, api.Arg)
	mustFree(t, p, 9, 6, api.Arg)
	mustAlloc(t, p, 0, 8, api.OK)
	mustAlloc(t, p, 0, 9, api.OK)
	mustAlloc(t, p, 0, 10, api.OK)
	mustAlloc(t, p, 0, 11, api.OK)
	mustAlloc(t, p, 0, 0, api.Full)
}

func TestTrimStopsWhereAPageMayNotBeUsed(t *testing.T) {
	p := mustMake(t, 9, 9, api.Freed{Page: 8, Gen: 3}, api.Freed{Page: 7, Gen: 5}, api.Freed{Page: 6, Gen: 2}, api.Freed{Page: 4, Gen: 1})
	mustTrim(t, p, 2, 0, 9)
	mustTrim(t, p, 3, 1, 8)
	mustTrim(t, p, 4, 0, 8)
	mustHave(t, p, 8, api.Freed{Page: 4, Gen: 1}, api.Freed{Page: 6, Gen: 2}, api.Freed{Page: 7, Gen: 5})
	mustTrim(t, p, 5, 2, 6)
	mustHave(t, p, 6, api.Freed{Page: 4, Gen: 1})
	mustFree(t, p, 5, 9, api.OK)
	mustTrim(t, p, 9, 2, 4)
	mustHave(t, p, 4)
}

func TestTrimDownToTwo(t *testing.T) {
	mustTrim(t, mustMake(t, 2, 2), math.MaxUint64, 0, 2)
	mustTrim(t, mustMake(t, 9, 2), math.MaxUint64, 0, 2)
	mustTrim(t, mustMake(t, 3, 3, api.Freed{Page: 2}), 0, 1, 2)
	p := mustMake(t, 2048, 2048, freedRow(2, 2046)...)
	mustTrim(t, p, math.MaxUint64, 2046, 2)
	mustHave(t, p, 2)
	mustTrim(t, p, math.MaxUint64, 0, 2)
	mustFree(t, p, 2, 1, api.Arg)
	mustAlloc(t, p, 0, 2, api.OK)
	mustHave(t, p, 3)
}

func TestACloneThatIsChanged(t *testing.T) {
	list := []api.Freed{{Page: 3, Gen: 4}, {Page: 5, Gen: 6}, {Page: 7, Gen: 2}}
	for what, change := range map[string]func(p *pool.Pool){
		"Alloc of a freed one":        func(p *pool.Pool) { p.Alloc(9) },
		"Alloc of the high mark":      func(p *pool.Pool) { p.Alloc(0) },
		"Free":                        func(p *pool.Pool) { p.Free(4, 9) },
		"Trim":                        func(p *pool.Pool) { p.Trim(9) },
		"Alloc and Free in between":   func(p *pool.Pool) { p.Alloc(9); p.Free(3, 8) },
		"Alloc of all till it's Full": func(p *pool.Pool) { allocAll(p) },
	} {
		p := mustMake(t, 10, 8, list...)
		q := p.Clone()
		mustBe(t, "P7.2: a clone", q, newPlain(10, 8, list))
		change(q)
		mustBe(t, "P7.2: a pool whose clone is changed, "+what, p, newPlain(10, 8, list))
		r := p.Clone()
		change(p)
		mustBe(t, "P7.2: a clone of a pool that is changed, "+what, r, newPlain(10, 8, list))
		if p.High() != q.High() || !slices.Equal(p.List(), q.List()) {
			t.Errorf("P7.2: a clone isn't alike in %s: %d %v and %d %v", what, p.High(), p.List(), q.High(), q.List())
		}
	}
}

// allocAll: pages are told till there are none; no more often than there may be pages, so that a pool that never ends fails a test rather than hangs it.
func allocAll(p *pool.Pool) {
	for range api.MaxPages {
		if _, e := p.Alloc(math.MaxUint64); e != api.OK {
			return
		}
	}
}

// TestAClonesCapacity: a clone has the capacity, and as an empty one, too, is a pool of its own.
func TestAClonesCapacity(t *testing.T) {
	p := mustMake(t, 4, 3)
	q := p.Clone().Clone()
	mustAlloc(t, q, 0, 3, api.OK)
	mustAlloc(t, q, 0, 0, api.Full)
	mustFree(t, q, 2, 1, api.OK)
	mustHave(t, p, 3)
	mustHave(t, q, 4, api.Freed{Page: 2, Gen: 1})
}

// TestAnyHistory: a pool and its clones go through the same calls as plain ones.
func TestAnyHistory(t *testing.T) {
	for seed := range 150 {
		random := rand.New(rand.NewSource(int64(seed)))
		capacity := 2 + random.Intn(40)
		high := 2 + random.Intn(capacity-1)
		var list []api.Freed
		for _, no := range random.Perm(high) {
			if no >= 2 && random.Intn(2) == 0 {
				list = append(list, api.Freed{Page: no, Gen: uint64(random.Intn(12))})
			}
		}
		p, want := mustMake(t, capacity, high, list...), newPlain(capacity, high, list)
		for range 200 {
			x := uint64(random.Intn(13))
			switch random.Intn(12) {
			case 0, 1, 2, 3:
				no, code := want.alloc(x)
				mustAlloc(t, p, x, no, code)
			case 4, 5, 6, 7, 8, 9:
				no := random.Intn(capacity+4) - 2
				mustFree(t, p, no, x, want.free(no, x))
			case 10:
				n := want.trim(x)
				mustTrim(t, p, x, n, len(want.rows))
			default:
				if q := p.Clone(); random.Intn(2) == 0 {
					allocAll(p)
					p, want = q, want.clone()
				} else {
					allocAll(q)
				}
			}
			mustBe(t, "P7.2: any history", p, want)
		}
	}
}

// TestNoPageIsToldTwice: unless it was freed, or trimmed, between.
func TestNoPageIsToldTwice(t *testing.T) {
	for seed := range 100 {
		random := rand.New(rand.NewSource(int64(seed)))
		capacity := 10 + random.Intn(200)
		p := mustMake(t, capacity, 2)
		told := map[int]bool{}
		for range 1000 {
			switch random.Intn(8) {
			case 0, 1, 2, 3:
				no, e := p.Alloc(uint64(random.Intn(10)))
				if e == api.OK && (told[no] || no < 2 || no >= capacity) {
					t.Fatalf("P7.4: page %d of %d is told, and was told before", no, capacity)
				}
				if e == api.OK {
					told[no] = true
				}
			case 4, 5, 6:
				no := random.Intn(capacity)
				if e := p.Free(no, uint64(random.Intn(10))); (e == api.OK) != told[no] {
					t.Fatalf("P7.4: Free(%d): code %d, and told before: %v", no, e, told[no])
				}
				delete(told, no)
			default:
				p.Trim(uint64(random.Intn(10)))
			}
			for no := range told {
				if no >= p.High() {
					t.Fatalf("P7.4: page %d is told, and isn't below the high mark %d", no, p.High())
				}
			}
		}
	}
}

func TestPieces(t *testing.T) {
	for _, c := range []struct{ n, want int }{
		{math.MinInt, 1}, {-85, 1}, {-84, 1}, {-1, 1}, {0, 1}, {1, 1}, {2, 1}, {83, 1}, {84, 1}, {85, 2}, {167, 2}, {168, 2}, {169, 3}, {252, 3}, {253, 4},
		{2046, 25}, {2048, 25}, {1 << 31, 25565282}, {math.MaxInt, 109802048057794951}, {math.MaxInt - 83, 109802048057794950},
	} {
		if got := pool.Pieces(c.n); got != c.want {
			t.Errorf("P7.3: Pieces(%d): %d, not %d", c.n, got, c.want)
		}
	}
	for n := 1; n < 3000; n++ {
		if k := pool.Pieces(n); k*84 < n || (k-1)*84 >= n {
			t.Errorf("P7.3: Pieces(%d): %d", n, k)
		}
	}
}

func TestKnownBytes(t *testing.T) {
	list := []api.Freed{{Page: 0x01020304, Gen: 0x1112131415161718}, {Page: 5, Gen: 6}}
	want := []byte{0, 2, 0x21, 0x22, 0x23, 0x24,
		1, 2, 3, 4, 0x11, 0x12, 0x13, 0x14, 0x15, 0x16, 0x17, 0x18,
		0, 0, 0, 5, 0, 0, 0, 0, 0, 0, 0, 6}
	if got := pool.Pay(list, 0x21222324); !bytes.Equal(got, want) {
		t.Errorf("P7.3: Pay(%v): % X, not % X", list, got, want)
	}
	mustRead(t, "known bytes", append(want, make([]byte, 1016-len(want))...), list, 0x21222324)
	if got := pool.Pay(nil, 0); !bytes.Equal(got, make([]byte, 6)) {
		t.Errorf("P7.3: Pay of no pages: % X, not 6 bytes 0", got)
	}
	mustRead(t, "bytes 0", make([]byte, 1016), nil, 0)
}

func TestPay(t *testing.T) {
	for _, n := range []int{0, 1, 2, 83, 84} {
		for _, next := range []int{0, 1, 2, 77, 2047, 2048, 1 << 24, 1<<31 - 1} {
			list := freedRow(2, n)
			says, length := saysOf(list, next)
			if got := pool.Pay(list, next); !bytes.Equal(got, says[:length]) {
				t.Errorf("P7.3: Pay of %d pages and %d: % X, not % X", n, next, got, says[:length])
			}
			mustRead(t, "what is said, filled up", says, list, next)
		}
	}
	if got := pool.Pay([]api.Freed{}, 9); !bytes.Equal(got, []byte{0, 0, 0, 0, 0, 9}) {
		t.Errorf("P7.3: Pay of a list that is empty, not nil: % X", got)
	}
}

func TestPayOfWhatMayNotBe(t *testing.T) {
	for _, n := range []int{85, 86, 168, 256 + 84, 65536, 65537} {
		if got := pool.Pay(freedRow(2, n), 0); len(got) != 0 {
			t.Errorf("P7.3: Pay of %d pages: %d bytes, not none", n, len(got))
		}
	}
	for _, no := range []int{math.MinInt, -1 << 32, -1<<32 + 5, -1 << 31, -2, -1, 1 << 31, 1<<32 - 1, 1 << 32, 1<<32 + 5, math.MaxInt} {
		for _, n := range []int{0, 1, 84, 85} {
			if got := pool.Pay(freedRow(2, n), no); len(got) != 0 {
				t.Errorf("P7.3: Pay of %d pages and %d: % X, not none", n, no, got)
			}
		}
		for _, n := range []int{1, 2, 84} {
			for _, at := range []int{0, n / 2, n - 1} {
				list := freedRow(2, n)
				list[at].Page = no
				if got := pool.Pay(list, 7); len(got) != 0 {
					t.Errorf("P7.3: Pay of %d pages, the one at %d being %d: % X, not none", n, at, no, got)
				}
			}
		}
	}
}

// TestPayAsHandedIn: pages at their edges, in any order, and twice, are told as they are handed in.
func TestPayAsHandedIn(t *testing.T) {
	for _, list := range [][]api.Freed{
		{{Page: 0, Gen: 0}},
		{{Page: 1, Gen: math.MaxUint64}},
		{{Page: 1<<31 - 1, Gen: 1 << 63}},
		{{Page: 9, Gen: 1}, {Page: 4, Gen: 7}, {Page: 6, Gen: 3}},
		{{Page: 4, Gen: 1}, {Page: 4, Gen: 7}, {Page: 4, Gen: 1}},
	} {
		says, length := saysOf(list, 3)
		if got := pool.Pay(list, 3); !bytes.Equal(got, says[:length]) {
			t.Errorf("P7.3: Pay(%v): % X, not % X", list, got, says[:length])
		}
		mustRead(t, "a list as it was handed in", says, list, 3)
	}
}

func TestFromPayOfOtherLengths(t *testing.T) {
	for _, count := range []int{0, 1, 84} {
		says, length := saysOf(freedRow(2, count), 7)
		says = append(says, make([]byte, 2000)...)
		for _, n := range []int{0, 1, 2, 5, 6, 7, length, 1014, 1015, 1017, 1018, 1024, 2032} {
			mustBeMalformed(t, "another length", says[:n])
			mustBeMalformed(t, "another length, without room behind", says[:n:n])
			mustBeMalformed(t, "bytes 0 of another length", make([]byte, n))
		}
		mustRead(t, "PayLen bytes with room behind", says[:1016], freedRow(2, count), 7)
	}
	mustBeMalformed(t, "nil", nil)
	mustBeMalformed(t, "bytes 255", bytes.Repeat([]byte{255}, 1016))
}

func TestFromPayOfHowMany(t *testing.T) {
	mustRead(t, "0 pages", plainSays(0, 5), nil, 5)
	zeros := make([]api.Freed, 84)
	for n := range 85 {
		mustRead(t, "so many pages of bytes 0", plainSays(uint16(n), 5), zeros[:n], 5)
	}
	for _, count := range []uint16{85, 86, 127, 128, 255, 256, 256 + 84, 0x5400, 1<<15 - 1, 1 << 15, 65535} {
		mustBeMalformed(t, "too many", plainSays(count, 0))
		mustBeMalformed(t, "too many, and a next", plainSays(count, 9))
	}
	says, _ := saysOf(freedRow(2, 84), 5)
	mustRead(t, "84 pages", says, freedRow(2, 84), 5)
	says[1] = 85
	mustBeMalformed(t, "84 pages that are said to be 85", says)
	says[1] = 83
	mustBeMalformed(t, "84 pages that are said to be 83", says)
}

func TestFromPayOfNumbersThatNoPieceHas(t *testing.T) {
	for _, no := range []uint32{1 << 31, 1<<31 + 2, 1<<32 - 1} {
		mustBeMalformed(t, "a next beyond", plainSays(0, no))
		mustBeMalformed(t, "a next beyond, and a page", plainSays(1, no, plainSaid{2, 1}))
		mustBeMalformed(t, "a page beyond", plainSays(1, 0, plainSaid{no, 1}))
		mustBeMalformed(t, "the first page beyond", plainSays(2, 0, plainSaid{no, 1}, plainSaid{2, 1}))
		mustBeMalformed(t, "the last page beyond", plainSays(2, 0, plainSaid{2, 1}, plainSaid{no, 1}))
	}
	mustRead(t, "the greatest numbers", plainSays(1, 1<<31-1, plainSaid{1<<31 - 1, math.MaxUint64}), []api.Freed{{Page: 1<<31 - 1, Gen: math.MaxUint64}}, 1<<31-1)
}

// TestFromPayOfAByteBehind: none behind what is said may be another one than 0.
func TestFromPayOfAByteBehind(t *testing.T) {
	for _, n := range []int{0, 1, 2, 42, 83, 84} {
		list := freedRow(2, n)
		_, length := saysOf(list, 7)
		for at := length; at < 1016; at++ {
			for _, x := range []byte{1, 128, 255} {
				says, _ := saysOf(list, 7)
				says[at] = x
				mustBeMalformed(t, "a byte behind", says)
			}
		}
	}
}

// TestFromPayOfAnyBytes: just those are read that Pay says, filled up.
func TestFromPayOfAnyBytes(t *testing.T) {
	random := rand.New(rand.NewSource(7))
	read := 0
	for range 5000 {
		count := random.Intn(90)
		b := plainSays(uint16(count), random.Uint32()>>random.Intn(32))
		random.Read(b[6:min(1016, 6+12*random.Intn(90))])
		for at := 6; at+12 <= 1016; at += 12 {
			b[at] &= byte(255 >> random.Intn(4) >> random.Intn(2))
		}
		list, next, e := pool.FromPay(b)
		if e == api.OK {
			read++
			says, _ := saysOf(list, next)
			if len(list) != count || !bytes.Equal(says, b) {
				t.Fatalf("P7.3: FromPay tells %v and %d, which isn't what the page says", list, next)
			}
			continue
		}
		if e != api.Malformed || len(list) != 0 || next != 0 {
			t.Fatalf("P7.3: FromPay: %v, %d and code %d", list, next, e)
		}
		if mayBeRead(b) {
			t.Fatalf("P7.3: FromPay of what a page says: Malformed")
		}
	}
	if read < 10 {
		t.Errorf("only %d of the random pages were a piece's", read)
	}
}

// mayBeRead: whether bytes are what a page says, by saying them again.
func mayBeRead(b []byte) bool {
	count := int(binary.BigEndian.Uint16(b))
	next := binary.BigEndian.Uint32(b[2:])
	if count > 84 || next >= 1<<31 {
		return false
	}
	var rows []plainSaid
	for i := range count {
		row := b[6+12*i:]
		rows = append(rows, plainSaid{binary.BigEndian.Uint32(row), binary.BigEndian.Uint64(row[4:])})
		if rows[i].no >= 1<<31 {
			return false
		}
	}
	return bytes.Equal(plainSays(uint16(count), next, rows...), b)
}

// TestAListByItsPieces: whatever a pool's list is, cut into pieces, said, filled up and read, it makes the same pool.
func TestAListByItsPieces(t *testing.T) {
	for _, n := range []int{0, 1, 83, 84, 85, 167, 168, 169, 1000, 2046} {
		p := mustMake(t, 2048, 2048, freedRow(2, n)...)
		list := p.List()
		var read []api.Freed
		k := pool.Pieces(len(list))
		for i := range k {
			piece, next := list[84*i:min(84*i+84, len(list))], 0
			if i < k-1 {
				next = 500 + i
			}
			says := pool.Pay(piece, next)
			filled := append(says, make([]byte, 1016-len(says))...)
			got, gotNext, e := pool.FromPay(filled)
			if e != api.OK || gotNext != next || !slices.Equal(got, piece) {
				t.Fatalf("P7.4: piece %d of %d: %d pages, next %d and code %d", i, k, len(got), gotNext, e)
			}
			read = append(read, got...)
		}
		mustBe(t, "P7.4: a list read by its pieces", mustMake(t, 2048, 2048, read...), newPlain(2048, 2048, list))
	}
}

func TestWhatIsHandedInStays(t *testing.T) {
	whole := append(freedRow(900, 5), api.Freed{Page: 9, Gen: 9}, api.Freed{Page: 4, Gen: 4}, api.Freed{Page: 6, Gen: 6}, api.Freed{Page: 1, Gen: 1})
	was := slices.Clone(whole)
	handed := whole[5:8]
	p, e := pool.New(20, 15, handed)
	pool.New(20, 5, handed)
	says := pool.Pay(handed, 3)
	if e != api.OK || !slices.Equal(whole, was) {
		t.Fatalf("P7.1: a list that was handed in is changed, or what stands beside it")
	}
	q := p.Clone()
	for i := range whole {
		whole[i] = api.Freed{Page: 2, Gen: 99}
	}
	kept := []api.Freed{{Page: 4, Gen: 4}, {Page: 6, Gen: 6}, {Page: 9, Gen: 9}}
	mustHave(t, p, 15, kept...)
	mustHave(t, q, 15, kept...)
	want, length := saysOf([]api.Freed{{Page: 9, Gen: 9}, {Page: 4, Gen: 4}, {Page: 6, Gen: 6}}, 3)
	if !bytes.Equal(says, want[:length]) {
		t.Errorf("P7.3: what Pay answered changes with the list")
	}
	// What the pool does then touches nothing that was handed in.
	allocAll(p)
	p.Free(3, 3)
	for i := range whole {
		if whole[i] != (api.Freed{Page: 2, Gen: 99}) {
			t.Fatalf("P7.2: a list that was handed in is changed behind the call")
		}
	}
}

func TestBytesThatAreHandedInStay(t *testing.T) {
	for _, count := range []int{0, 1, 84, 85} {
		for _, n := range []int{0, 6, 1015, 1016, 1017} {
			says, _ := saysOf(freedRow(2, count), 7)
			whole := append(append([]byte("ahead"), says...), bytes.Repeat([]byte{0xA5}, 100)...)
			was := bytes.Clone(whole)
			list, next, e := pool.FromPay(whole[5 : 5+n])
			if !bytes.Equal(whole, was) {
				t.Errorf("P7.3: %d bytes were changed by FromPay, or what stands beside them", n)
			}
			for i := range whole {
				whole[i] = 0x5A
			}
			if n == 1016 && count < 85 && (e != api.OK || next != 7 || !slices.Equal(list, freedRow(2, count))) {
				t.Errorf("P7.3: what FromPay answered changes with the bytes: %v, %d and code %d", list, next, e)
			}
		}
	}
}

// spoil: an answer is written over, and what would be put behind it, too.
func spoil[E any](list []E, x E) {
	for i := range list {
		list[i] = x
	}
	behind := list[:cap(list)]
	for i := range behind {
		behind[i] = x
	}
}

func TestWhatIsAnsweredIsNewMemory(t *testing.T) {
	list := freedRow(2, 84)
	p := mustMake(t, 200, 150, list...)
	q := p.Clone()
	first, second := p.List(), p.List()
	spoil(first, api.Freed{Page: 99, Gen: 99})
	if !slices.Equal(second, list) {
		t.Errorf("P7.1: two lists share memory")
	}
	mustHave(t, p, 150, list...)
	mustHave(t, q, 150, list...)
	says, length := saysOf(list, 9)
	one, two := pool.Pay(list, 9), pool.Pay(list, 9)
	spoil(one, 0x5A)
	if !bytes.Equal(two, says[:length]) || !bytes.Equal(pool.Pay(list, 9), says[:length]) || !slices.Equal(list, freedRow(2, 84)) {
		t.Errorf("P7.3: what Pay answers shares memory")
	}
	read, _, _ := pool.FromPay(says)
	again, _, _ := pool.FromPay(says)
	spoil(read, api.Freed{Page: 99, Gen: 99})
	if !slices.Equal(again, list) {
		t.Errorf("P7.3: two lists of FromPay share memory")
	}
	mustRead(t, "bytes whose answer was written over", says, list, 9)
	mustAlloc(t, p, math.MaxUint64, 2, api.OK)
}

// TestPoolsAreTheirOwn: two pools of one list share nothing.
func TestPoolsAreTheirOwn(t *testing.T) {
	list := freedRow(2, 10)
	p, q := mustMake(t, 20, 15, list...), mustMake(t, 20, 15, list...)
	allocAll(p)
	p.Free(14, 1)
	mustHave(t, q, 15, list...)
	// Asking changes nothing.
	for range 3 {
		q.High()
		q.List()
		q.Clone()
		mustHave(t, q, 15, list...)
	}
}
