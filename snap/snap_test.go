package snap_test

import (
	"math"
	"math/rand/v2"
	"slices"
	"testing"

	"cambium/api"
	"cambium/snap"
)

// plain is a registry by the chapter's words: a row of all snapshots that there ever were, the first of which has number 1.
type plain struct {
	rows []plainRow
}

type plainRow struct {
	version uint64
	open    bool
}

func (p *plain) numbers() []int {
	var out []int
	for i, row := range p.rows {
		if row.open {
			out = append(out, i+1)
		}
	}
	return out
}

func (p *plain) openOne(version uint64) (int, api.Code) {
	if len(p.numbers()) >= 64 {
		return 0, 6
	}
	p.rows = append(p.rows, plainRow{version, true})
	return len(p.rows), 0
}

func (p *plain) version(no int) (uint64, api.Code) {
	if no < 1 || no > len(p.rows) || !p.rows[no-1].open {
		return 0, 9
	}
	return p.rows[no-1].version, 0
}

func (p *plain) closeOne(no int) api.Code {
	if no < 1 || no > len(p.rows) || !p.rows[no-1].open {
		return 9
	}
	p.rows[no-1].open = false
	return 0
}

func (p *plain) horizon(newest uint64) uint64 {
	for _, row := range p.rows {
		if row.open && row.version < newest {
			newest = row.version
		}
	}
	return newest
}

// pair is a registry, and the plain one to which the same is done.
type pair struct {
	t    *testing.T
	r    *snap.Registry
	want *plain
}

// newPair: a registry without snapshots.
func newPair(t *testing.T) *pair {
	t.Helper()
	p := &pair{t, snap.New(), &plain{}}
	p.mustBe()
	return p
}

// filled: a registry of so many open snapshots, each of version 100 and its number.
func filled(t *testing.T, n int) *pair {
	t.Helper()
	p := newPair(t)
	for i := range n {
		p.opens(uint64(101+i), i+1)
	}
	return p
}

// open: both do it, and tell the same.
func (p *pair) open(version uint64) (int, api.Code) {
	p.t.Helper()
	no, e := p.r.Open(version)
	if wantNo, want := p.want.openOne(version); no != wantNo || e != want {
		p.t.Fatalf("P14.1: Open(%d): %d and code %d, not %d and %d", version, no, e, wantNo, want)
	}
	p.mustBe()
	return no, e
}

// opens: a snapshot of a version is open, and has this number.
func (p *pair) opens(version uint64, want int) {
	p.t.Helper()
	if no, e := p.open(version); no != want || e != api.OK {
		p.t.Fatalf("P14.1: Open(%d): %d and code %d, not %d and OK", version, no, e, want)
	}
}

// refuses: no further one may be open.
func (p *pair) refuses(version uint64) {
	p.t.Helper()
	if no, e := p.open(version); no != 0 || e != api.Limit {
		p.t.Fatalf("P14.1: Open(%d): %d and code %d, not 0 and Limit", version, no, e)
	}
}

// close: both do it, and tell the same.
func (p *pair) close(no int) api.Code {
	p.t.Helper()
	e := p.r.Close(no)
	if want := p.want.closeOne(no); e != want {
		p.t.Fatalf("P14.1: Close(%d): code %d, not %d", no, e, want)
	}
	p.mustBe()
	return e
}

// closes: this one was open, and isn't any more.
func (p *pair) closes(no int) {
	p.t.Helper()
	if e := p.close(no); e != api.OK {
		p.t.Fatalf("P14.1: Close(%d): code %d, not OK", no, e)
	}
	p.isClosed(no)
}

// isClosed: there is no such open snapshot.
func (p *pair) isClosed(no int) {
	p.t.Helper()
	if v, e := p.r.Version(no); v != 0 || e != api.Closed {
		p.t.Fatalf("P14.1: Version(%d): %d and code %d, not 0 and Closed", no, v, e)
	}
	if e := p.close(no); e != api.Closed {
		p.t.Fatalf("P14.1: Close(%d): code %d, not Closed", no, e)
	}
}

// has: the registry tells this horizon.
func (p *pair) has(newest, want uint64) {
	p.t.Helper()
	if h := p.r.Horizon(newest); h != want {
		p.t.Fatalf("P14.2: Horizon(%d): %d, not %d", newest, h, want)
	}
}

// lists: just these are open.
func (p *pair) lists(want ...int) {
	p.t.Helper()
	if got := p.r.Numbers(); !slices.Equal(got, want) {
		p.t.Fatalf("P14.1: Numbers: %v, not %v", got, want)
	}
}

// mustBe: the registry tells what the plain one tells, of each number that there ever was, and of some around them.
func (p *pair) mustBe() {
	p.t.Helper()
	if got, want := p.r.Numbers(), p.want.numbers(); !slices.Equal(got, want) {
		p.t.Fatalf("P14.1: Numbers: %v, not %v", got, want)
	}
	for no := -1; no <= len(p.want.rows)+2; no++ {
		v, e := p.r.Version(no)
		if wantV, want := p.want.version(no); v != wantV || e != want {
			p.t.Fatalf("P14.1: Version(%d): %d and code %d, not %d and %d", no, v, e, wantV, want)
		}
	}
	for _, newest := range []uint64{0, 1, 50, 101, 1 << 40, math.MaxUint64} {
		p.has(newest, p.want.horizon(newest))
	}
	p.mustNotPass()
}

// mustNotPass: no horizon is above the version of one that is open, nor above the newest, and it is one of them.
func (p *pair) mustNotPass() {
	p.t.Helper()
	versions := []uint64{math.MaxUint64}
	for _, no := range p.r.Numbers() {
		v, _ := p.r.Version(no)
		versions = append(versions, v)
	}
	for _, newest := range versions {
		h := p.r.Horizon(newest)
		if !slices.Contains(versions, h) {
			p.t.Fatalf("P14.2: Horizon(%d): %d, which is none of %d", newest, h, versions)
		}
		if h > newest || h > slices.Min(versions) {
			p.t.Fatalf("P14.3: Horizon(%d): %d, above one of %d", newest, h, versions)
		}
	}
}

func TestExample(t *testing.T) { // P14.1, P14.2
	p := newPair(t)
	p.opens(5, 1)
	p.opens(7, 2)
	p.has(9, 5)
	p.closes(1)
	p.has(9, 7)
	p.lists(2)
}

func TestNoSnapshot(t *testing.T) { // P14.1, P14.2
	p := newPair(t)
	p.lists()
	for _, newest := range []uint64{0, 1, 9, 1 << 60, math.MaxUint64 - 1, math.MaxUint64} {
		p.has(newest, newest)
	}
	for _, no := range []int{math.MinInt, -1, 0, 1, 2, 64, math.MaxInt} {
		p.isClosed(no)
	}
	p.opens(3, 1)
}

func TestOneSnapshot(t *testing.T) { // P14.1, P14.2
	p := newPair(t)
	p.opens(5, 1)
	p.lists(1)
	if v, e := p.r.Version(1); v != 5 || e != api.OK {
		t.Errorf("P14.1: Version(1): %d and code %d, not 5 and OK", v, e)
	}
	p.has(4, 4)
	p.has(5, 5)
	p.has(6, 5)
	p.closes(1)
	p.lists()
	p.has(6, 6)
	p.opens(8, 2)
	p.isClosed(1)
}

func TestNoSuchNumber(t *testing.T) { // P14.1
	p := filled(t, 3)
	p.closes(2)
	for _, no := range []int{math.MinInt, math.MinInt32, -3, -1, 0, 2, 4, 5, 64, 65, 1<<32 + 1, -1<<32 + 1, math.MaxInt32, math.MaxInt} {
		p.isClosed(no)
	}
	p.lists(1, 3)
}

func TestClosedTwice(t *testing.T) { // P14.1, P14.3
	for _, no := range []int{1, 2, 3} {
		p := filled(t, 3)
		p.closes(no)
		p.isClosed(no)
		p.isClosed(no)
		p.opens(9, 4)
		p.isClosed(no)
	}
}

func TestMostOpen(t *testing.T) { // P14.1
	p := filled(t, 63)
	if n := len(p.r.Numbers()); n != 63 {
		t.Fatalf("P14.1: %d numbers, not 63", n)
	}
	p.opens(7, 64)
	if n := len(p.r.Numbers()); n != 64 {
		t.Fatalf("P14.1: %d numbers, not 64", n)
	}
	p.refuses(7)
	p.refuses(0)
	p.refuses(math.MaxUint64)
	p.isClosed(65)
	p.has(9, 7)
}

func TestOneMoreBehindClose(t *testing.T) { // P14.1, P14.3
	for _, no := range []int{1, 32, 64} {
		p := filled(t, 64)
		p.refuses(1)
		p.closes(no)
		p.has(500, p.want.horizon(500))
		// The Open that told Limit has used up no number, nor does one that is closed come again.
		p.opens(1, 65)
		p.refuses(1)
		p.isClosed(no)
		if n := len(p.r.Numbers()); n != 64 {
			t.Fatalf("P14.1: %d numbers, not 64", n)
		}
	}
}

func TestLimitAgainAndAgain(t *testing.T) { // P14.1, P14.3
	p := filled(t, 64)
	for i := range 200 {
		p.refuses(uint64(i))
		p.closes(i + 1)
		p.opens(uint64(i), i+65)
	}
}

func TestAllClosed(t *testing.T) { // P14.1, P14.2, P14.3
	rise := []int{}
	for no := 1; no <= 64; no++ {
		rise = append(rise, no)
	}
	fall := slices.Clone(rise)
	slices.Reverse(fall)
	mixed := slices.Clone(rise)
	rand.New(rand.NewPCG(14, 1)).Shuffle(len(mixed), func(i, j int) { mixed[i], mixed[j] = mixed[j], mixed[i] })
	for _, order := range [][]int{rise, fall, mixed} {
		p := filled(t, 64)
		for _, no := range order {
			p.closes(no)
		}
		p.lists()
		p.has(1000, 1000)
		p.opens(1, 65)
		p.lists(65)
	}
}

func TestOneVersionOften(t *testing.T) { // P14.1, P14.2, P14.3
	p := newPair(t)
	p.opens(5, 1)
	p.opens(5, 2)
	p.opens(5, 3)
	p.has(9, 5)
	p.closes(2)
	p.has(9, 5)
	p.closes(1)
	p.has(9, 5)
	p.lists(3)
	p.closes(3)
	p.has(9, 9)
}

func TestVersionsAtTheEdge(t *testing.T) { // P14.1, P14.2
	versions := []uint64{math.MaxUint64, math.MaxUint64 - 1, 1 << 63, 1<<63 - 1, 1 << 60, 1 << 32, 1, 0}
	p := newPair(t)
	for i, version := range versions {
		p.opens(version, i+1)
		if v, e := p.r.Version(i + 1); v != version || e != api.OK {
			t.Errorf("P14.1: Version(%d): %d and code %d, not %d and OK", i+1, v, e, version)
		}
		p.has(math.MaxUint64, version)
		p.has(version, version)
		p.has(0, 0)
	}
	for i := len(versions) - 1; i > 0; i-- {
		p.closes(i + 1)
		p.has(math.MaxUint64, versions[i-1])
	}
}

func TestHorizonBehindCloseOfTheLeast(t *testing.T) { // P14.2
	p := newPair(t)
	for i, version := range []uint64{30, 10, 20, 10, 40} {
		p.opens(version, i+1)
	}
	for newest := range uint64(50) {
		p.has(newest, min(newest, 10))
	}
	p.closes(2)
	p.has(50, 10)
	p.closes(4)
	p.has(50, 20)
	p.has(20, 20)
	p.has(19, 19)
	p.closes(5)
	p.has(50, 20)
	p.closes(3)
	p.has(50, 30)
	p.closes(1)
	p.has(50, 50)
}

// A snapshot that comes later may be of a version below: the horizon goes back to it.
func TestHorizonGoesBack(t *testing.T) { // P14.2, P14.3
	p := newPair(t)
	p.opens(9, 1)
	p.has(12, 9)
	p.opens(3, 2)
	p.has(12, 3)
	p.closes(2)
	p.has(12, 9)
}

func TestNumbersRise(t *testing.T) { // P14.1
	p := filled(t, 40)
	want := p.r.Numbers()
	for _, no := range []int{1, 20, 40, 2, 39, 10} {
		p.closes(no)
		at, _ := slices.BinarySearch(want, no)
		want = slices.Delete(want, at, at+1)
		p.lists(want...)
	}
	p.opens(1, 41)
	p.lists(append(want, 41)...)
}

// The order in which a map is gone over is another one each time; what is told isn't.
func TestSameEachTime(t *testing.T) { // P14.1, P14.2
	p := filled(t, 64)
	p.closes(7)
	want := p.r.Numbers()
	for range 200 {
		p.lists(want...)
		p.has(500, 101)
		p.has(50, 50)
	}
}

func TestSideBySide(t *testing.T) { // P14.1, P14.2, P14.3
	a, b := newPair(t), newPair(t)
	a.opens(5, 1)
	a.opens(6, 2)
	b.mustBe()
	b.opens(7, 1)
	b.has(9, 7)
	a.has(9, 5)
	a.closes(1)
	b.mustBe()
	b.lists(1)
	b.closes(1)
	a.mustBe()
	a.lists(2)
	for i := range 63 {
		a.opens(1, i+3)
	}
	a.refuses(1)
	b.opens(8, 2)
	b.isClosed(3)
	b.has(9, 8)
}

func TestListWrittenOver(t *testing.T) { // P14.1
	p := filled(t, 9)
	p.closes(4)
	first, second := p.r.Numbers(), p.r.Numbers()
	want := slices.Clone(second)
	writeOver(first)
	if !slices.Equal(second, want) {
		t.Errorf("two lists share memory: %v, not %v", second, want)
	}
	p.mustBe()
	writeOver(second)
	p.mustBe()
	p.opens(3, 10)
	p.closes(9)
	// What was told isn't changed by what comes behind it.
	third := p.r.Numbers()
	want = slices.Clone(third)
	p.closes(1)
	p.opens(4, 11)
	if !slices.Equal(third, want) {
		t.Errorf("a list that was told has changed: %v, not %v", third, want)
	}
}

// writeOver: the list, its spare room too, says something else.
func writeOver(list []int) {
	list = list[:cap(list)]
	for i := range list {
		list[i] = -7
	}
}

func TestRandomScripts(t *testing.T) { // P14.1, P14.2, P14.3
	for seed := range uint64(40) {
		rnd := rand.New(rand.NewPCG(seed, 14))
		p, told := newPair(t), map[int]bool{}
		// How often one is opened: registries that stay near empty, and ones that stay near full.
		often := 3 + int(seed)%7
		for range 300 {
			if rnd.IntN(10) < often {
				no, e := p.open(anyVersion(rnd))
				if e == api.OK && told[no] {
					t.Fatalf("P14.3: seed %d: number %d is told twice", seed, no)
				}
				told[no] = true
			} else {
				p.close(anyNumber(rnd, p))
			}
			newest := anyVersion(rnd)
			p.has(newest, p.want.horizon(newest))
		}
	}
}

// anyVersion: small ones, which meet, and great ones.
func anyVersion(rnd *rand.Rand) uint64 {
	switch rnd.IntN(4) {
	case 0:
		return rnd.Uint64()
	case 1:
		return math.MaxUint64 - rnd.Uint64N(3)
	}
	return rnd.Uint64N(20)
}

// anyNumber: one that is open, mostly; else one that may be closed, or was never told.
func anyNumber(rnd *rand.Rand, p *pair) int {
	if open := p.want.numbers(); len(open) > 0 && rnd.IntN(5) > 0 {
		return open[rnd.IntN(len(open))]
	}
	return rnd.IntN(len(p.want.rows)+6) - 2
}
