package disk_test

import (
	"bytes"
	"math"
	"math/rand"
	"slices"
	"testing"

	"cambium/api"
	"cambium/disk"
)

// fill: a page's bytes, each one x.
func fill(x byte) []byte { return bytes.Repeat([]byte{x}, 1024) }

// torn: such a page, torn.
func torn(x byte) []byte {
	b := fill(x)
	b[1023] = 255 - x
	return b
}

// plainWrite is a write that waits, as the chapter says it.
type plainWrite struct {
	no int
	b  []byte
}

// plain is a disk by the chapter's words: what is seen is worked out anew each time from what waits.
type plain struct {
	pages int
	safe  map[int][]byte
	waits []plainWrite
	acts  int // acts since the disk was made
	goes  int // the act in which the power goes; 0 or one that is past: none
	down  bool
}

func newPlain(pages int) *plain { return &plain{pages: pages, safe: map[int][]byte{}} }

func (p *plain) has(no int) bool { return no >= 0 && no < p.pages }

func (p *plain) safeOf(no int) []byte {
	if b, ok := p.safe[no]; ok {
		return b
	}
	return make([]byte, 1024)
}

func (p *plain) seenOf(no int) []byte {
	out := p.safeOf(no)
	for _, w := range p.waits {
		if w.no == no {
			out = w.b
		}
	}
	return out
}

func (p *plain) powerGoes() bool {
	p.acts++
	p.down = p.acts == p.goes
	return p.down
}

func (p *plain) write(no int, b []byte) api.Code {
	if !p.has(no) || len(b) != 1024 {
		return api.Arg
	}
	if p.down {
		return api.Down
	}
	p.waits = append(p.waits, plainWrite{no, bytes.Clone(b)})
	if p.powerGoes() {
		return api.Down
	}
	return api.OK
}

func (p *plain) sync() api.Code {
	if p.down || p.powerGoes() {
		return api.Down
	}
	for _, w := range p.waits {
		p.safe[w.no] = w.b
	}
	p.waits = nil
	return api.OK
}

func (p *plain) arm(n int) {
	p.goes = 0
	if n >= 1 {
		p.goes = p.acts + n
	}
}

func (p *plain) crash(keep []bool, at int) {
	for i, w := range p.waits {
		if i >= len(keep) || !keep[i] {
			continue
		}
		b := bytes.Clone(w.b)
		if i == at {
			b[1023] = 255 - b[1023]
		}
		p.safe[w.no] = b
	}
	p.waits, p.goes, p.down = nil, 0, false
}

// same: the disk tells in all its calls what the plain one tells.
func same(t *testing.T, what string, d *disk.Disk, p *plain) {
	t.Helper()
	if d.Pages() != p.pages || d.Down() != p.down {
		t.Fatalf("P5.2: %s: %d pages, down %v, not %d, %v", what, d.Pages(), d.Down(), p.pages, p.down)
	}
	var waits []int
	for _, w := range p.waits {
		waits = append(waits, w.no)
	}
	if got := d.Waiting(); !slices.Equal(got, waits) {
		t.Fatalf("P5.2: %s: %v wait, not %v", what, got, waits)
	}
	for no := range p.pages {
		mustSee(t, what, d, no, p.seenOf(no))
		mustBeSafe(t, what, d, no, p.safeOf(no))
	}
	mustNotBe(t, what, d, -1)
	mustNotBe(t, what, d, p.pages)
}

func mustSee(t *testing.T, what string, d *disk.Disk, no int, want []byte) {
	t.Helper()
	if got, e := d.Read(no); e != api.OK || !bytes.Equal(got, want) {
		t.Fatalf("P5.1: %s: Read(%d): %d bytes and code %d: % X .., not % X ..", what, no, len(got), e, ends(got), ends(want))
	}
}

func mustBeSafe(t *testing.T, what string, d *disk.Disk, no int, want []byte) {
	t.Helper()
	if got := d.Safe(no); !bytes.Equal(got, want) {
		t.Fatalf("P5.2: %s: Safe(%d): %d bytes: % X .., not % X ..", what, no, len(got), ends(got), ends(want))
	}
}

// mustNotBe: there is no such page.
func mustNotBe(t *testing.T, what string, d *disk.Disk, no int) {
	t.Helper()
	if got, e := d.Read(no); e != api.Arg || len(got) != 0 {
		t.Fatalf("P5.1: %s: Read(%d): %d bytes and code %d, not none and Arg", what, no, len(got), e)
	}
	if got := d.Safe(no); len(got) != 0 {
		t.Fatalf("P5.2: %s: Safe(%d): %d bytes, where there is no such page", what, no, len(got))
	}
}

func mustWait(t *testing.T, what string, d *disk.Disk, want ...int) {
	t.Helper()
	if got := d.Waiting(); !slices.Equal(got, want) {
		t.Fatalf("P5.2: %s: %v wait, not %v", what, got, want)
	}
}

// must: the code that a call answers.
func must(t *testing.T, what string, got, want api.Code) {
	t.Helper()
	if got != want {
		t.Fatalf("P5.1: %s: code %d, not %d", what, got, want)
	}
}

// ends: a page's first and last bytes.
func ends(b []byte) []byte {
	if len(b) < 4 {
		return b
	}
	return append(bytes.Clone(b[:2]), b[len(b)-2:]...)
}

// synced: a disk on which each page n has the safe bytes 10 + n.
func synced(t *testing.T, pages int) *disk.Disk {
	t.Helper()
	d := disk.New(pages)
	for no := range pages {
		must(t, "Write", d.Write(no, fill(10+byte(no))), api.OK)
	}
	must(t, "Sync", d.Sync(), api.OK)
	return d
}

func TestNewDisks(t *testing.T) {
	for _, c := range []struct{ asked, want int }{
		{math.MinInt, 0}, {-2, 0}, {-1, 0}, {0, 0}, {1, 1}, {2, 2}, {2047, 2047}, {2048, 2048}, {2049, 2048}, {1 << 32, 2048}, {1<<32 + 1, 2048}, {math.MaxInt, 2048},
	} {
		d := disk.New(c.asked)
		if d.Pages() != c.want {
			t.Fatalf("P5.1: New(%d): %d pages, not %d", c.asked, d.Pages(), c.want)
		}
		same(t, "a new disk", d, newPlain(c.want))
		for _, no := range []int{math.MinInt, -1 << 32, -1, c.want, c.want + 1, 1 << 32, math.MaxInt} {
			mustNotBe(t, "a new disk", d, no)
			must(t, "Write of a page that there isn't", d.Write(no, fill(1)), api.Arg)
		}
		mustWait(t, "behind refused writes", d)
		must(t, "Sync of a new disk", d.Sync(), api.OK)
		if c.want == 0 {
			continue
		}
		for _, no := range []int{0, c.want - 1} {
			must(t, "Write", d.Write(no, fill(9)), api.OK)
			mustSee(t, "first and last page", d, no, fill(9))
			mustBeSafe(t, "first and last page", d, no, fill(0))
		}
		must(t, "Sync", d.Sync(), api.OK)
		mustBeSafe(t, "last page behind a sync", d, c.want-1, fill(9))
	}
}

func TestDisksAreApart(t *testing.T) {
	a, b := disk.New(2), disk.New(2)
	must(t, "Write", a.Write(0, fill(1)), api.OK)
	a.Arm(1)
	same(t, "a disk beside one that is written", b, newPlain(2))
	must(t, "Sync", b.Sync(), api.OK)
	mustBeSafe(t, "a disk beside one that is synced", a, 0, fill(0))
	must(t, "Sync", a.Sync(), api.Down)
	if b.Down() {
		t.Error("P5.2: the power is gone on another disk")
	}
}

func TestAWriteIsSeenAtOnceAndWaits(t *testing.T) {
	d := disk.New(3)
	must(t, "Write", d.Write(2, fill(1)), api.OK)
	mustSee(t, "a write", d, 2, fill(1))
	mustBeSafe(t, "a write", d, 2, fill(0))
	must(t, "Write", d.Write(0, fill(2)), api.OK)
	must(t, "Write", d.Write(2, fill(3)), api.OK)
	must(t, "Write", d.Write(2, fill(4)), api.OK)
	mustWait(t, "writes", d, 2, 0, 2, 2)
	mustSee(t, "several writes", d, 2, fill(4))
	mustSee(t, "another page", d, 0, fill(2))
	mustSee(t, "a page without a write", d, 1, fill(0))
	mustBeSafe(t, "several writes", d, 2, fill(0))
	must(t, "Sync", d.Sync(), api.OK)
	mustWait(t, "behind a sync", d)
	for no, x := range []byte{2, 0, 4} {
		mustSee(t, "behind a sync", d, no, fill(x))
		mustBeSafe(t, "behind a sync", d, no, fill(x))
	}
	// Bytes 0 are written like others.
	must(t, "Write", d.Write(2, fill(0)), api.OK)
	mustSee(t, "bytes 0", d, 2, fill(0))
	mustBeSafe(t, "bytes 0", d, 2, fill(4))
	must(t, "Sync", d.Sync(), api.OK)
	mustBeSafe(t, "bytes 0 behind a sync", d, 2, fill(0))
}

func TestEveryBytePlaceIsKept(t *testing.T) {
	random := rand.New(rand.NewSource(5))
	b := make([]byte, 1024)
	random.Read(b)
	d := disk.New(1)
	must(t, "Write", d.Write(0, b), api.OK)
	mustSee(t, "any bytes", d, 0, b)
	must(t, "Sync", d.Sync(), api.OK)
	mustBeSafe(t, "any bytes", d, 0, b)
	must(t, "Write", d.Write(0, b), api.OK)
	d.Crash([]bool{true}, 0)
	want := bytes.Clone(b)
	want[1023] ^= 0xFF
	mustBeSafe(t, "any bytes, torn", d, 0, want)
	mustSee(t, "any bytes, torn", d, 0, want)
}

func TestRefusedWrites(t *testing.T) {
	d := synced(t, 2)
	must(t, "Write", d.Write(1, fill(3)), api.OK)
	refuse := func() {
		t.Helper()
		for _, no := range []int{math.MinInt, -1 << 32, -2, -1, 2, 3, 2048, 1 << 32, 1<<32 + 1, math.MaxInt} {
			must(t, "Write of a page that there isn't", d.Write(no, fill(9)), api.Arg)
			must(t, "Write of no page, without bytes", d.Write(no, nil), api.Arg)
		}
		for _, n := range []int{0, 1, 1016, 1023, 1025, 2048} {
			must(t, "Write of another length", d.Write(0, bytes.Repeat([]byte{9}, n)), api.Arg)
			must(t, "Write of another length", d.Write(1, bytes.Repeat([]byte{9}, n)), api.Arg)
		}
		must(t, "Write of nil", d.Write(0, nil), api.Arg)
		must(t, "Write of 1023 bytes with room for more", d.Write(0, fill(9)[:1023]), api.Arg)
		mustWait(t, "behind refused writes", d, 1)
		mustSee(t, "behind refused writes", d, 0, fill(10))
		mustSee(t, "behind refused writes", d, 1, fill(3))
		mustBeSafe(t, "behind refused writes", d, 1, fill(11))
	}
	refuse()
	// What is refused isn't counted as an act.
	d.Arm(1)
	refuse()
	if d.Down() {
		t.Fatal("P5.1: the power goes in what is refused")
	}
	must(t, "Sync", d.Sync(), api.Down)
	// Arg is named ahead of Down.
	refuse()
	if !d.Down() {
		t.Fatal("P5.2: the power comes again in what is refused")
	}
}

func TestWhatIsNoActIsNotCounted(t *testing.T) {
	d := disk.New(2)
	d.Arm(1)
	for range 5 {
		d.Read(0)
		d.Read(2)
		d.Safe(1)
		d.Pages()
		d.Waiting()
		d.Down()
	}
	if d.Down() {
		t.Fatal("P5.1: the power goes in what is no act")
	}
	must(t, "the first act", d.Write(0, fill(1)), api.Down)
}

func TestThePowerGoesInThatAct(t *testing.T) {
	for _, n := range []int{1, 2, 3, 4, 7} {
		for kinds := range 1 << 7 {
			d, p := disk.New(2), newPlain(2)
			d.Arm(n)
			p.arm(n)
			for i := range 7 {
				var got, want api.Code
				if kinds>>i&1 == 0 {
					got, want = d.Write(i%2, fill(byte(i+1))), p.write(i%2, fill(byte(i+1)))
				} else {
					got, want = d.Sync(), p.sync()
				}
				if want != api.OK != (i+1 >= n) {
					t.Fatalf("the test's own disk is wrong at act %d of Arm(%d)", i+1, n)
				}
				must(t, "an act of an armed disk", got, want)
				same(t, "an armed disk", d, p)
			}
		}
	}
}

func TestNothingIsArmed(t *testing.T) {
	for _, n := range []int{0, -1, -2, math.MinInt, math.MaxInt, 1 << 32} {
		d := disk.New(1)
		d.Arm(n)
		for range 9 {
			must(t, "Write", d.Write(0, fill(1)), api.OK)
			must(t, "Sync", d.Sync(), api.OK)
		}
		if d.Down() {
			t.Errorf("P5.2: Arm(%d): the power is gone", n)
		}
	}
}

func TestArmedAnew(t *testing.T) {
	for _, c := range []struct {
		first, then, between, goes int
	}{
		{1, 2, 0, 2}, {2, 1, 0, 1}, {5, 2, 0, 2}, {2, 5, 0, 5}, {2, 5, 1, 6}, {3, 3, 2, 5}, {1, 0, 0, 0}, {1, -1, 0, 0}, {3, 0, 2, 0}, {3, math.MinInt, 1, 0}, {0, 1, 3, 4}, {-1, 2, 1, 3},
	} {
		d := disk.New(1)
		d.Arm(c.first)
		for range c.between {
			must(t, "an act between", d.Write(0, fill(1)), api.OK)
		}
		d.Arm(c.then)
		for i := c.between + 1; i < 12; i++ {
			want := api.OK
			if c.goes > 0 && i >= c.goes {
				want = api.Down
			}
			if got := d.Sync(); got != want || d.Down() != (want == api.Down) {
				t.Fatalf("P5.1: Arm(%d), %d acts, Arm(%d): act %d answers %d, not %d", c.first, c.between, c.then, i, got, want)
			}
		}
	}
}

func TestThePowerGoesInAWrite(t *testing.T) {
	d := synced(t, 3)
	must(t, "Write", d.Write(0, fill(1)), api.OK)
	d.Arm(1)
	must(t, "the write in which the power goes", d.Write(1, fill(2)), api.Down)
	behind := func() {
		t.Helper()
		if !d.Down() {
			t.Fatal("P5.2: the power is there again")
		}
		mustWait(t, "behind the power's going", d, 0, 1)
		for no, x := range []byte{1, 2, 12} {
			mustSee(t, "behind the power's going", d, no, fill(x))
			mustBeSafe(t, "behind the power's going", d, no, fill(10+byte(no)))
		}
	}
	behind()
	for range 3 {
		must(t, "a write behind it", d.Write(1, fill(5)), api.Down)
		must(t, "a write behind it", d.Write(2, fill(6)), api.Down)
		must(t, "a sync behind it", d.Sync(), api.Down)
		behind()
	}
	// Arm alone doesn't bring the power again.
	for _, n := range []int{0, -1, 1, 2, 5} {
		d.Arm(n)
		behind()
		must(t, "a sync behind it", d.Sync(), api.Down)
		must(t, "a write behind it", d.Write(2, fill(7)), api.Down)
		behind()
	}
	d.Crash([]bool{true, true, true, true}, -1)
	for no, x := range []byte{1, 2, 12} {
		mustSee(t, "the power comes again", d, no, fill(x))
		mustBeSafe(t, "the power comes again", d, no, fill(x))
	}
	for range 9 {
		must(t, "an act with the power there again", d.Sync(), api.OK)
	}
}

func TestThePowerGoesInASync(t *testing.T) {
	for _, keep := range [][]bool{nil, {true}, {false, true}, {true, true}} {
		d := synced(t, 2)
		must(t, "Write", d.Write(1, fill(1)), api.OK)
		d.Arm(2)
		must(t, "Write", d.Write(0, fill(2)), api.OK)
		must(t, "the sync in which the power goes", d.Sync(), api.Down)
		must(t, "a sync behind it", d.Sync(), api.Down)
		must(t, "a write behind it", d.Write(0, fill(3)), api.Down)
		mustWait(t, "behind the power's going", d, 1, 0)
		mustSee(t, "behind the power's going", d, 0, fill(2))
		mustSee(t, "behind the power's going", d, 1, fill(1))
		mustBeSafe(t, "behind the power's going", d, 0, fill(10))
		mustBeSafe(t, "behind the power's going", d, 1, fill(11))
		d.Crash(keep, -1)
		if d.Down() {
			t.Fatal("P5.3: the power is still gone")
		}
		want := []byte{10, 11}
		if len(keep) > 0 && keep[0] {
			want[1] = 1
		}
		if len(keep) > 1 && keep[1] {
			want[0] = 2
		}
		for no, x := range want {
			mustSee(t, "the power comes again", d, no, fill(x))
			mustBeSafe(t, "the power comes again", d, no, fill(x))
		}
		mustWait(t, "the power comes again", d)
	}
}

func TestTheChaptersExamples(t *testing.T) {
	ones := fill(0xFF)
	for _, first := range []bool{false, true} {
		d, was := disk.New(1), fill(0)
		if first {
			d, was = synced(t, 1), fill(10)
		}
		must(t, "Write", d.Write(0, ones), api.OK)
		d.Crash([]bool{false}, 0)
		mustBeSafe(t, "Crash([false], 0)", d, 0, was)
		mustSee(t, "Crash([false], 0)", d, 0, was)
		must(t, "Write", d.Write(0, ones), api.OK)
		d.Crash([]bool{true}, 0)
		mustBeSafe(t, "Crash([true], 0)", d, 0, torn(0xFF))
		mustSee(t, "Crash([true], 0)", d, 0, torn(0xFF))
	}
}

// TestEveryWayOfCrashing: writes on several pages, several of them on one, and every keep, shorter and longer than what waits, with every torn.
func TestEveryWayOfCrashing(t *testing.T) {
	rows := [][]int{{}, {0}, {0, 0}, {0, 1, 0}, {2, 2, 0, 2}, {1, 0, 0, 1}}
	for _, row := range rows {
		for n := range len(row) + 3 {
			for bits := range 1 << n {
				keep := make([]bool, n)
				for i := range keep {
					keep[i] = bits>>i&1 == 1
				}
				for _, at := range []int{math.MinInt, -1, 0, 1, 2, 3, 4, 5, 6, 1 << 32, math.MaxInt} {
					d, p := disk.New(3), newPlain(3)
					must(t, "Write", d.Write(0, fill(40)), p.write(0, fill(40)))
					must(t, "Sync", d.Sync(), p.sync())
					for i, no := range row {
						must(t, "Write", d.Write(no, fill(byte(i+1))), p.write(no, fill(byte(i+1))))
					}
					d.Crash(keep, at)
					p.crash(keep, at)
					same(t, "behind a crash", d, p)
				}
			}
		}
	}
}

func TestKnownCrashes(t *testing.T) {
	for _, c := range []struct {
		what       string
		keep       []bool
		at         int
		page0      []byte
		page1      []byte
		goesInLast bool
	}{
		{"no keep", nil, 0, fill(10), fill(11), false},
		{"a shorter keep", []bool{true}, -1, fill(1), fill(11), false},
		{"a longer keep", []bool{true, true, true, true, true}, 4, fill(3), fill(2), false},
		{"torn below 0", []bool{true, true, true}, -1, fill(3), fill(2), false},
		{"torn past the last", []bool{true, true, true}, 3, fill(3), fill(2), false},
		{"torn at one that isn't kept", []bool{true, false, false}, 2, fill(1), fill(11), false},
		{"torn at the first, with a later one kept", []bool{true, true, true}, 0, fill(3), fill(2), false},
		{"torn at the first, with no later one kept", []bool{true, true, false}, 0, torn(1), fill(2), false},
		{"torn at the last, with an earlier one kept", []bool{true, true, true}, 2, torn(3), fill(2), false},
		{"the last alone, behind the power's going", []bool{false, false, true}, -1, fill(3), fill(11), true},
		{"the last torn, behind the power's going", []bool{false, false, true}, 2, torn(3), fill(11), true},
		{"all, behind the power's going", []bool{true, true, true}, 1, fill(3), torn(2), true},
	} {
		d := synced(t, 2)
		must(t, "Write", d.Write(0, fill(1)), api.OK)
		must(t, "Write", d.Write(1, fill(2)), api.OK)
		last := api.OK
		if c.goesInLast {
			d.Arm(1)
			last = api.Down
		}
		must(t, "Write", d.Write(0, fill(3)), last)
		d.Crash(c.keep, c.at)
		mustBeSafe(t, c.what, d, 0, c.page0)
		mustBeSafe(t, c.what, d, 1, c.page1)
		mustSee(t, c.what, d, 0, c.page0)
		mustSee(t, c.what, d, 1, c.page1)
		mustWait(t, c.what, d)
		if d.Down() {
			t.Errorf("P5.3: %s: the power is still gone", c.what)
		}
	}
}

func TestNothingIsArmedBehindACrash(t *testing.T) {
	for _, n := range []int{1, 2, 3} {
		for _, gone := range []bool{false, true} {
			d := disk.New(1)
			if gone {
				d.Arm(1)
				must(t, "the act in which the power goes", d.Sync(), api.Down)
			}
			d.Arm(n)
			d.Crash(nil, 0)
			for range 5 {
				must(t, "an act behind a crash", d.Write(0, fill(1)), api.OK)
				must(t, "an act behind a crash", d.Sync(), api.OK)
			}
			// It can be armed anew.
			d.Arm(2)
			must(t, "an act of what was armed anew", d.Write(0, fill(2)), api.OK)
			must(t, "an act of what was armed anew", d.Sync(), api.Down)
		}
	}
}

func TestCrashWithNothingThatWaits(t *testing.T) {
	d := synced(t, 2)
	for _, keep := range [][]bool{nil, {}, {true}, {true, true, true}} {
		for _, at := range []int{-1, 0, 1} {
			d.Crash(keep, at)
			for no := range 2 {
				mustBeSafe(t, "nothing waits", d, no, fill(10+byte(no)))
				mustSee(t, "nothing waits", d, no, fill(10+byte(no)))
			}
		}
	}
	none := disk.New(0)
	none.Crash([]bool{true}, 0)
	same(t, "a disk without pages", none, newPlain(0))
}

func TestWhatIsSafeStays(t *testing.T) {
	d := synced(t, 2)
	for i := range 20 {
		must(t, "Write", d.Write(0, fill(byte(100+i))), api.OK)
		mustBeSafe(t, "P5.4: written anew, which waits", d, 0, fill(10))
		if i%3 == 0 {
			d.Crash([]bool{false, false, false}, i%4-1)
		}
	}
	d.Arm(1)
	must(t, "Sync", d.Sync(), api.Down)
	d.Crash(nil, 0)
	mustBeSafe(t, "P5.4: nothing survived", d, 0, fill(10))
	mustBeSafe(t, "P5.4: a page beside it", d, 1, fill(11))
	must(t, "Write", d.Write(0, fill(7)), api.OK)
	d.Crash([]bool{true}, 0)
	mustBeSafe(t, "P5.4: torn", d, 0, torn(7))
	must(t, "Sync", d.Sync(), api.OK)
	mustBeSafe(t, "P5.4: a sync mends nothing", d, 0, torn(7))
	mustBeSafe(t, "P5.4: a page beside it", d, 1, fill(11))
	must(t, "Write", d.Write(0, fill(8)), api.OK)
	must(t, "Sync", d.Sync(), api.OK)
	mustBeSafe(t, "P5.4: written anew", d, 0, fill(8))
}

// anyAct: one call of any kind on both disks, with what it answers.
func anyAct(t *testing.T, random *rand.Rand, d *disk.Disk, p *plain) {
	t.Helper()
	switch random.Intn(12) {
	case 0, 1, 2, 3, 4:
		no, b := random.Intn(p.pages+2)-1, make([]byte, 1024)
		random.Read(b)
		must(t, "Write", d.Write(no, b), p.write(no, b))
	case 5:
		no, n := random.Intn(p.pages+2)-1, []int{0, 1023, 1025}[random.Intn(3)]
		must(t, "Write of another length", d.Write(no, make([]byte, n)), p.write(no, make([]byte, n)))
	case 6, 7, 8:
		e := d.Sync()
		must(t, "Sync", e, p.sync())
		for no := range p.pages {
			if seen, _ := d.Read(no); e == api.OK && !bytes.Equal(seen, d.Safe(no)) {
				t.Fatalf("P5.4: behind a sync page %d is seen otherwise than it is safe", no)
			}
		}
	case 9, 10:
		n := random.Intn(8) - 1
		d.Arm(n)
		p.arm(n)
	case 11:
		keep := make([]bool, random.Intn(len(p.waits)+3))
		for i := range keep {
			keep[i] = random.Intn(3) > 0
		}
		at := random.Intn(len(p.waits)+4) - 2
		d.Crash(keep, at)
		p.crash(keep, at)
	}
}

func TestAnyScript(t *testing.T) {
	for seed := range 400 {
		random := rand.New(rand.NewSource(int64(seed)))
		pages := seed % 5
		d, p := disk.New(pages), newPlain(pages)
		for range 60 {
			anyAct(t, random, d, p)
			same(t, "any script", d, p)
		}
	}
}

// withRoom: the bytes between others that a call has no business with, and the whole of them.
func withRoom(b []byte) (part, whole []byte) {
	whole = append(append([]byte("ahead"), b...), bytes.Repeat([]byte{0xA5}, 2100)...)
	return whole[5 : 5+len(b)], whole
}

func TestWhatIsHandedInIsNotKept(t *testing.T) {
	part, whole := withRoom(fill(1))
	was := bytes.Clone(whole)
	d, p := disk.New(2), newPlain(2)
	for no := range 2 {
		must(t, "Write", d.Write(no, part), p.write(no, part))
	}
	clear(whole)
	same(t, "bytes written over behind a write", d, p)
	must(t, "Sync", d.Sync(), p.sync())
	same(t, "bytes written over behind a write, synced", d, p)
	copy(whole, was)
	must(t, "Write", d.Write(0, part), p.write(0, part))
	must(t, "Write", d.Write(0, part), p.write(0, part))
	clear(whole)
	row := []bool{true, true, true, true}
	keep := row[:2]
	d.Crash(keep, 1)
	p.crash(keep, 1)
	clear(row)
	same(t, "a keep written over behind a crash", d, p)
}

func TestWhatIsHandedInStays(t *testing.T) {
	for _, n := range []int{0, 1, 1023, 1024, 1025} {
		part, whole := withRoom(bytes.Repeat([]byte{7}, n))
		was := bytes.Clone(whole)
		d := disk.New(2)
		for _, no := range []int{-1, 0, 1, 2} {
			d.Write(no, part)
		}
		row := []bool{true, true, false, true}
		d.Crash(row[:2], 1)
		d.Arm(1)
		d.Write(0, part)
		d.Write(0, part)
		d.Crash(row[:1], 0)
		if !bytes.Equal(whole, was) {
			t.Errorf("P5.1: %d bytes were changed by a call, or what stands beside them", n)
		}
		if !slices.Equal(row, []bool{true, true, false, true}) {
			t.Errorf("P5.3: a keep was changed, or what stands behind it: %v", row)
		}
	}
}

// spoil: an answer is written over, and what would be put behind it, too.
func spoil(b []byte) {
	more := append(b, bytes.Repeat([]byte{0x5A}, 64)...)
	for i := range more {
		more[i] = 0x5A
	}
	for i := range b {
		b[i] = 0x5A
	}
}

func spoilAll(d *disk.Disk) {
	for range 2 {
		for no := -1; no <= d.Pages(); no++ {
			b, _ := d.Read(no)
			spoil(b)
			spoil(d.Safe(no))
		}
		w := d.Waiting()
		_ = append(w, 99)
		for i := range w {
			w[i] = 99
		}
	}
}

func TestWhatIsAnsweredIsNewMemory(t *testing.T) {
	d, p := disk.New(4), newPlain(4)
	spoilAll(d)
	same(t, "answers of a new disk written over", d, p)
	for _, no := range []int{0, 1, 0} {
		must(t, "Write", d.Write(no, fill(byte(no+3))), p.write(no, fill(byte(no+3))))
	}
	spoilAll(d)
	same(t, "answers written over, while writes wait", d, p)
	must(t, "Sync", d.Sync(), p.sync())
	spoilAll(d)
	same(t, "answers written over behind a sync", d, p)
	for _, no := range []int{1, 2, 0} {
		must(t, "Write", d.Write(no, fill(byte(no+7))), p.write(no, fill(byte(no+7))))
	}
	d.Arm(1)
	p.arm(1)
	must(t, "Write", d.Write(2, fill(20)), p.write(2, fill(20)))
	spoilAll(d)
	same(t, "answers written over, with the power gone", d, p)
	d.Crash([]bool{true, true}, 1)
	p.crash([]bool{true, true}, 1)
	spoilAll(d)
	same(t, "answers written over behind a crash", d, p)
}

func TestAnswersStayWhatTheyWere(t *testing.T) {
	d := synced(t, 1)
	must(t, "Write", d.Write(0, fill(1)), api.OK)
	seen, _ := d.Read(0)
	again, _ := d.Read(0)
	safe, waits := d.Safe(0), d.Waiting()
	spoil(again)
	must(t, "Write", d.Write(0, fill(2)), api.OK)
	d.Crash([]bool{true, true}, 1)
	must(t, "Write", d.Write(0, fill(3)), api.OK)
	must(t, "Sync", d.Sync(), api.OK)
	if !bytes.Equal(seen, fill(1)) || !bytes.Equal(safe, fill(10)) || !slices.Equal(waits, []int{0}) {
		t.Errorf("P5.1, P5.2: answers change with the disk: % X, % X, %v", ends(seen), ends(safe), waits)
	}
}
