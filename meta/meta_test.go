package meta_test

import (
	"bytes"
	"encoding/binary"
	"hash/crc32"
	"math"
	"math/rand"
	"slices"
	"testing"

	"cambium/api"
	"cambium/disk"
	"cambium/meta"
)

// plainMay: whether a meta is one, by the chapter's words.
func plainMay(m api.Meta) bool {
	switch {
	case m.Gen < 1, m.Gen > 1152921504606846976:
		return false
	case m.High < 2, m.High > 2048:
		return false
	case m.Root != 0 && (m.Root < 2 || m.Root >= m.High):
		return false
	case m.Free != 0 && (m.Free < 2 || m.Free >= m.High):
		return false
	}
	return true
}

// plainSays: what a page says of these numbers, be they a meta's or not: 1016 bytes.
func plainSays(gen uint64, high, root, free uint32) []byte {
	out := []byte{0x43, 0x41, 0x4D, 0x42}
	out = binary.BigEndian.AppendUint64(out, gen)
	out = binary.BigEndian.AppendUint32(out, high)
	out = binary.BigEndian.AppendUint32(out, root)
	out = binary.BigEndian.AppendUint32(out, free)
	return append(out, make([]byte, 992)...)
}

// saysOf: what a meta's page says.
func saysOf(m api.Meta) []byte {
	return plainSays(m.Gen, uint32(m.High), uint32(m.Root), uint32(m.Free))
}

// plainFrom: the meta of which bytes are what a page says, found by saying it again.
func plainFrom(b []byte) (api.Meta, bool) {
	if len(b) != 1016 {
		return api.Meta{}, false
	}
	m := api.Meta{
		Gen:  binary.BigEndian.Uint64(b[4:]),
		High: int(binary.BigEndian.Uint32(b[12:])),
		Root: int(binary.BigEndian.Uint32(b[16:])),
		Free: int(binary.BigEndian.Uint32(b[20:])),
	}
	if !plainMay(m) || !bytes.Equal(saysOf(m), b) {
		return api.Meta{}, false
	}
	return m, true
}

// plainPage: a page of this number that says this.
func plainPage(no uint32, says []byte) []byte {
	out := make([]byte, 1016)
	copy(out, says)
	out = binary.BigEndian.AppendUint32(out, no)
	return binary.BigEndian.AppendUint32(out, crc32.Checksum(out, crc32.MakeTable(crc32.Castagnoli)))
}

// goodMetas: ordinary metas, and those at the edges, each byte of the numbers used.
func goodMetas() []api.Meta {
	return []api.Meta{
		{Gen: 1, High: 2},
		{Gen: 2, High: 2},
		{Gen: 1, High: 3, Root: 2},
		{Gen: 1, High: 3, Free: 2},
		{Gen: 1, High: 3, Root: 2, Free: 2},
		{Gen: 77, High: 300, Root: 7, Free: 9},
		{Gen: 76, High: 300, Root: 299, Free: 2},
		{Gen: 75, High: 300, Root: 2, Free: 299},
		{Gen: 5, High: 2048},
		{Gen: 6, High: 2048, Root: 2047, Free: 2046},
		{Gen: 0x0102030405060708, High: 2048, Root: 0x123, Free: 0x456},
		{Gen: 0x0F0E0D0C0B0A0909, High: 0x0701, Root: 0x0602, Free: 0x0503},
		{Gen: 1<<32 - 1, High: 9, Root: 8},
		{Gen: 1 << 32, High: 9, Free: 8},
		{Gen: 1<<60 - 1, High: 2048, Root: 2047, Free: 2047},
		{Gen: 1 << 60, High: 2048, Root: 2, Free: 0},
	}
}

// wrongMetas: numbers that no meta has, among them those that look right in 32 bits.
func wrongMetas() []api.Meta {
	out := []api.Meta{
		{},
		{High: 5}, {Gen: 1}, {High: 5, Root: 2, Free: 3},
		{Gen: 1<<60 + 1, High: 5}, {Gen: 1<<60 + 2, High: 5}, {Gen: 1 << 61, High: 5}, {Gen: 1 << 63, High: 5}, {Gen: math.MaxUint64, High: 5},
		{Gen: 1, High: 2, Root: 2}, {Gen: 1, High: 2, Free: 2},
		{Gen: 1, High: 2048, Root: 2048}, {Gen: 1, High: 2048, Free: 2048},
		{Gen: 1, High: 5, Root: 1, Free: 3}, {Gen: 1, High: 5, Root: 3, Free: 1},
	}
	for _, high := range []int{math.MinInt, -1 << 32, -5, -2, -1, 0, 1, 2049, 2050, 1 << 31, 1 << 32, 1<<32 + 5, math.MaxInt} {
		out = append(out, api.Meta{Gen: 1, High: high})
	}
	for _, no := range []int{math.MinInt, -1 << 32, -1<<32 + 3, -3, -2, -1, 1, 5, 6, 2047, 2048, 1 << 31, 1 << 32, 1<<32 + 3, math.MaxInt} {
		out = append(out, api.Meta{Gen: 1, High: 5, Root: no}, api.Meta{Gen: 1, High: 5, Free: no})
	}
	return out
}

// must: the code that a call answers.
func must(t *testing.T, what string, got, want api.Code) {
	t.Helper()
	if got != want {
		t.Fatalf("P6.2: %s: code %d, not %d", what, got, want)
	}
}

// mustBeNewest: the disk tells this one.
func mustBeNewest(t *testing.T, what string, d *disk.Disk, want api.Meta) {
	t.Helper()
	if got, e := meta.Newest(d); e != api.OK || got != want {
		t.Fatalf("P6.2: %s: newest %v and code %d, not %v", what, got, e, want)
	}
}

// mustTellNone: the disk tells none.
func mustTellNone(t *testing.T, what string, d *disk.Disk) {
	t.Helper()
	if got, e := meta.Newest(d); e != api.NotFound || got != (api.Meta{}) {
		t.Fatalf("P6.2: %s: newest %v and code %d, not none and NotFound", what, got, e)
	}
}

// mustFrom: what FromPay answers is what the chapter says.
func mustFrom(t *testing.T, what string, b []byte) {
	t.Helper()
	want, ok := plainFrom(b)
	code := api.Malformed
	if ok {
		code = api.OK
	}
	if got, e := meta.FromPay(b); e != code || got != want {
		t.Errorf("P6.1: FromPay of %s: %v and code %d, not %v and %d", what, got, e, want, code)
	}
}

// mustBeMalformed: FromPay refuses it.
func mustBeMalformed(t *testing.T, what string, b []byte) {
	t.Helper()
	if got, e := meta.FromPay(b); e != api.Malformed || got != (api.Meta{}) {
		t.Errorf("P6.1: FromPay of %s: %v and code %d, not none and Malformed", what, got, e)
	}
}

// synced: a disk to which these metas were written, each one synced.
func synced(t *testing.T, pages int, ms ...api.Meta) *disk.Disk {
	t.Helper()
	d := disk.New(pages)
	for _, m := range ms {
		must(t, "Write", meta.Write(d, m), api.OK)
		must(t, "Sync", d.Sync(), api.OK)
	}
	return d
}

// version: a meta of this number, whose other fields belong to it alone.
func version(gen uint64) api.Meta {
	high := 10 + int(gen%1000)
	return api.Meta{Gen: gen, High: high, Root: high - 1, Free: high - 2}
}

func TestMay(t *testing.T) {
	for _, m := range goodMetas() {
		if !meta.May(m) {
			t.Errorf("P6.1: %v isn't a meta", m)
		}
	}
	for _, m := range wrongMetas() {
		if meta.May(m) {
			t.Errorf("P6.1: %v is a meta", m)
		}
	}
}

func TestMayAtEachEdge(t *testing.T) {
	for _, c := range []struct {
		gen  uint64
		want bool
	}{{0, false}, {1, true}, {2, true}, {1<<60 - 1, true}, {1 << 60, true}, {1<<60 + 1, false}} {
		if m := (api.Meta{Gen: c.gen, High: 5, Root: 3, Free: 4}); meta.May(m) != c.want {
			t.Errorf("P6.1: May(%v) isn't %v", m, c.want)
		}
	}
	for _, c := range []struct {
		high int
		want bool
	}{{1, false}, {2, true}, {3, true}, {2047, true}, {2048, true}, {2049, false}} {
		if m := (api.Meta{Gen: 9, High: c.high}); meta.May(m) != c.want {
			t.Errorf("P6.1: May(%v) isn't %v", m, c.want)
		}
	}
	for _, high := range []int{3, 4, 5, 100, 2047, 2048} {
		for _, c := range []struct {
			no   int
			want bool
		}{{-1, false}, {0, true}, {1, false}, {2, true}, {high - 1, true}, {high, false}, {high + 1, false}} {
			for _, other := range []int{0, 2} {
				if m := (api.Meta{Gen: 9, High: high, Root: c.no, Free: other}); meta.May(m) != c.want {
					t.Errorf("P6.1: May(%v) isn't %v, by its Root", m, c.want)
				}
				if m := (api.Meta{Gen: 9, High: high, Root: other, Free: c.no}); meta.May(m) != c.want {
					t.Errorf("P6.1: May(%v) isn't %v, by its Free", m, c.want)
				}
			}
		}
	}
}

func TestMayOfAllAround(t *testing.T) {
	for _, gen := range []uint64{0, 1, 1 << 60, 1<<60 + 1} {
		for high := -1; high < 8; high++ {
			for root := -2; root < 9; root++ {
				for free := -2; free < 9; free++ {
					m := api.Meta{Gen: gen, High: high, Root: root, Free: free}
					if meta.May(m) != plainMay(m) {
						t.Fatalf("P6.1: May(%v) isn't %v", m, plainMay(m))
					}
				}
			}
		}
	}
}

func TestKnownBytes(t *testing.T) {
	m := api.Meta{Gen: 0x0102030405060708, High: 0x0400, Root: 0x0302, Free: 0x0203}
	want := []byte{'C', 'A', 'M', 'B', 1, 2, 3, 4, 5, 6, 7, 8, 0, 0, 4, 0, 0, 0, 3, 2, 0, 0, 2, 3}
	if got := meta.Pay(m); !bytes.Equal(got, want) {
		t.Errorf("P6.1: Pay(%v): % X, not % X", m, got, want)
	}
	page := append(slices.Clone(want), make([]byte, 992)...)
	if got, e := meta.FromPay(page); e != api.OK || got != m {
		t.Errorf("P6.1: FromPay(% X ..): %v and code %d, not %v", want, got, e, m)
	}
}

func TestPay(t *testing.T) {
	for _, m := range goodMetas() {
		if got := meta.Pay(m); !bytes.Equal(got, saysOf(m)[:24]) {
			t.Errorf("P6.1: Pay(%v): % X, not % X", m, got, saysOf(m)[:24])
		}
		if got, e := meta.FromPay(saysOf(m)); e != api.OK || got != m {
			t.Errorf("P6.1: FromPay of what %v says: %v and code %d", m, got, e)
		}
	}
	for _, m := range wrongMetas() {
		if got := meta.Pay(m); len(got) != 0 {
			t.Errorf("P6.1: Pay(%v): % X, not none", m, got)
		}
	}
}

func TestFromPayOfOtherLengths(t *testing.T) {
	m := api.Meta{Gen: 77, High: 300, Root: 7, Free: 9}
	says := append(saysOf(m), make([]byte, 2000)...)
	for _, n := range []int{0, 1, 3, 4, 12, 23, 24, 25, 1014, 1015, 1017, 1018, 1024, 2032} {
		mustBeMalformed(t, "another length", says[:n])
		mustBeMalformed(t, "another length, without room behind", says[:n:n])
		mustBeMalformed(t, "bytes 0 of another length", make([]byte, n))
	}
	mustBeMalformed(t, "nil", nil)
	mustBeMalformed(t, "bytes 0", make([]byte, 1016))
	mustBeMalformed(t, "bytes 255", bytes.Repeat([]byte{255}, 1016))
	if got, e := meta.FromPay(says[:1016]); e != api.OK || got != m {
		t.Errorf("P6.1: FromPay of 1016 bytes with room behind: %v and code %d, not %v", got, e, m)
	}
}

// TestFromPayOfEachByteTurned: a turned byte says another meta or none, never the same one.
func TestFromPayOfEachByteTurned(t *testing.T) {
	for _, m := range goodMetas() {
		for at := range 24 {
			for x := 1; x < 256; x++ {
				b := saysOf(m)
				b[at] ^= byte(x)
				mustFrom(t, "a byte turned", b)
				if got, e := meta.FromPay(b); e == api.OK && got == m {
					t.Errorf("P6.1: FromPay tells %v with byte %d turned", m, at)
				}
			}
		}
		for at := 24; at < 1016; at++ {
			for bit := range 8 {
				b := saysOf(m)
				b[at] = 1 << bit
				mustBeMalformed(t, "a byte behind turned", b)
			}
		}
	}
}

func TestFromPayOfAnotherMark(t *testing.T) {
	m := api.Meta{Gen: 77, High: 300, Root: 7, Free: 9}
	for _, mark := range []string{"camb", "CAMb", "BMAC", "AMBC", "CAM\x00", "\x00AMB", "\x00\x00\x00\x00"} {
		b := saysOf(m)
		copy(b, mark)
		mustBeMalformed(t, "another mark", b)
	}
	b := append([]byte{0}, saysOf(m)[:1015]...)
	mustBeMalformed(t, "what stands a byte behind", b)
	mustBeMalformed(t, "what stands a byte ahead", append(saysOf(m)[1:], 0))
}

func TestFromPayOfNumbersThatNoMetaHas(t *testing.T) {
	for _, gen := range []uint64{0, 1<<60 + 1, 1 << 61, 1 << 63, math.MaxUint64} {
		mustBeMalformed(t, "another Gen", plainSays(gen, 5, 2, 3))
	}
	for _, high := range []uint32{0, 1, 2049, 2050, 1 << 16, 1 << 24, 1<<31 - 1, 1 << 31, 1<<32 - 1} {
		mustBeMalformed(t, "another High", plainSays(1, high, 0, 0))
	}
	for _, no := range []uint32{1, 5, 6, 2048, 1 << 16, 1<<24 + 3, 1 << 31, 1<<31 + 3, 1<<32 - 1} {
		mustBeMalformed(t, "another Root", plainSays(1, 5, no, 0))
		mustBeMalformed(t, "another Free", plainSays(1, 5, 0, no))
	}
	for _, high := range []uint32{0, 1, 2, 3, 4, 5, 2047, 2048, 2049} {
		for _, root := range []uint32{0, 1, 2, 3, 4, 2046, 2047, 2048} {
			for _, free := range []uint32{0, 1, 2, 3, 4, 2046, 2047, 2048} {
				mustFrom(t, "numbers around the edges", plainSays(1<<60, high, root, free))
			}
		}
	}
}

func TestFromPayOfAnyBytes(t *testing.T) {
	random := rand.New(rand.NewSource(6))
	for range 2000 {
		b := make([]byte, 1016)
		random.Read(b[:24])
		mustFrom(t, "any bytes", b)
		copy(b, "CAMB")
		mustFrom(t, "any bytes behind the mark", b)
		small := plainSays(random.Uint64()>>random.Intn(64), uint32(random.Intn(2051)), uint32(random.Intn(2050)), uint32(random.Intn(2050)))
		mustFrom(t, "any numbers", small)
	}
}

func TestWriteComesToItsPlace(t *testing.T) {
	for _, m := range goodMetas() {
		d := disk.New(3)
		was := plainPage(2, []byte("beside"))
		must(t, "Write", d.Write(2, was), api.OK)
		must(t, "Sync", d.Sync(), api.OK)
		must(t, "Write", meta.Write(d, m), api.OK)
		at := 1
		if m.Gen%2 == 0 {
			at = 0
		}
		if got := d.Waiting(); !slices.Equal(got, []int{at}) {
			t.Fatalf("P6.2: Write of %v: pages %v wait, not page %d alone", m, got, at)
		}
		if got, _ := d.Read(at); !bytes.Equal(got, plainPage(uint32(at), saysOf(m))) {
			t.Fatalf("P6.2: Write of %v: its page is another one", m)
		}
		if !bytes.Equal(d.Safe(at), make([]byte, 1024)) {
			t.Fatalf("P6.2: Write of %v: its page doesn't wait", m)
		}
		if got, _ := d.Read(2); !bytes.Equal(got, was) {
			t.Fatalf("P6.2: Write of %v: a page beside is another one", m)
		}
		if got, _ := d.Read(1 - at); !bytes.Equal(got, make([]byte, 1024)) {
			t.Fatalf("P6.2: Write of %v: the other place is another one", m)
		}
		mustBeNewest(t, "a write that waits", d, m)
		must(t, "Sync", d.Sync(), api.OK)
		mustBeNewest(t, "a write that is safe", d, m)
	}
}

func TestWriteOfWhatIsNoMeta(t *testing.T) {
	for _, m := range wrongMetas() {
		d := synced(t, 2, version(4), version(5))
		for range 2 {
			must(t, "Write of what is no meta", meta.Write(d, m), api.Arg)
			if got := d.Waiting(); len(got) != 0 {
				t.Fatalf("P6.2: Write of %v: pages %v wait", m, got)
			}
			mustBeNewest(t, "behind a refused write", d, version(5))
			// Refused, it is no act: the power doesn't go in it.
			d.Arm(1)
		}
		must(t, "the act in which the power goes", d.Sync(), api.Down)
		// Arg is named ahead of Down.
		must(t, "Write of what is no meta, with the power gone", meta.Write(d, m), api.Arg)
	}
}

func TestDisksOfFewPages(t *testing.T) {
	odd, even := version(7), version(8)
	for pages := range 4 {
		d := disk.New(pages)
		mustTellNone(t, "a new disk", d)
		var oddCode, evenCode api.Code
		if pages < 2 {
			oddCode = api.Arg
		}
		if pages < 1 {
			evenCode = api.Arg
		}
		must(t, "Write of an odd one", meta.Write(d, odd), oddCode)
		if pages < 2 {
			mustTellNone(t, "a disk that hasn't page 1", d)
		} else {
			mustBeNewest(t, "a disk that has page 1", d, odd)
		}
		must(t, "Write of an even one", meta.Write(d, even), evenCode)
		if pages < 1 {
			mustTellNone(t, "a disk without pages", d)
		} else {
			mustBeNewest(t, "a disk that has page 0", d, even)
		}
		d.Arm(1)
		must(t, "the act in which the power goes", d.Sync(), api.Down)
		if oddCode == api.OK {
			oddCode = api.Down
		}
		if evenCode == api.OK {
			evenCode = api.Down
		}
		// That the disk hasn't that page is named ahead of Down.
		must(t, "Write of an odd one, with the power gone", meta.Write(d, odd), oddCode)
		must(t, "Write of an even one, with the power gone", meta.Write(d, even), evenCode)
	}
}

// TestAMetaBeyondItsDisk: that a meta's pages are the disk's isn't asked.
func TestAMetaBeyondItsDisk(t *testing.T) {
	m := api.Meta{Gen: 3, High: 2048, Root: 2047, Free: 2000}
	mustBeNewest(t, "a High beyond the disk", synced(t, 2, m), m)
}

// place is what a place is given in a test: its bytes, and the meta that it tells, if it tells one.
type place struct {
	what  string
	bytes []byte
	tells api.Meta
}

// placesAt: what may stand at a place, told of or not.
func placesAt(no int) []place {
	parity := uint64(no)
	here, there := uint32(no), uint32(1-no)
	own, far := version(20+parity), version(1<<60-2+parity)
	foreign := version(31 - parity)
	torn := plainPage(here, saysOf(version(40+parity)))
	torn[1023] ^= 0xFF
	turned := plainPage(here, saysOf(version(40+parity)))
	turned[11] ^= 2
	wrong := plainSays(1<<60+2+parity, 9, 0, 0)
	more := saysOf(version(40 + parity))
	more[1015] = 1
	return []place{
		{"bytes 0", make([]byte, 1024), api.Meta{}},
		{"a meta", plainPage(here, saysOf(own)), own},
		{"a far meta", plainPage(here, saysOf(far)), far},
		{"a meta whose place is the other one", plainPage(here, saysOf(foreign)), api.Meta{}},
		{"the other place's page", plainPage(there, saysOf(foreign)), api.Meta{}},
		{"its meta on a page of the other number", plainPage(there, saysOf(version(40+parity))), api.Meta{}},
		{"a torn page", torn, api.Meta{}},
		{"a page with a bit turned", turned, api.Meta{}},
		{"a page that says nothing", plainPage(here, nil), api.Meta{}},
		{"a page that says a Gen that no meta has", plainPage(here, wrong), api.Meta{}},
		{"a page that says more", plainPage(here, more), api.Meta{}},
		{"a page that says Gen 0", plainPage(here, plainSays(0, 9, 0, 0)), api.Meta{}},
	}
}

func TestWhatPlacesTell(t *testing.T) {
	for _, even := range placesAt(0) {
		for _, odd := range placesAt(1) {
			for _, pages := range []int{2, 3} {
				d := disk.New(pages)
				must(t, "Write", d.Write(0, even.bytes), api.OK)
				must(t, "Write", d.Write(1, odd.bytes), api.OK)
				want := even.tells
				if odd.tells.Gen > want.Gen {
					want = odd.tells
				}
				what := "page 0: " + even.what + ", page 1: " + odd.what
				for range 2 {
					if want.Gen == 0 {
						mustTellNone(t, what, d)
					} else {
						mustBeNewest(t, what, d, want)
					}
					must(t, "Sync", d.Sync(), api.OK)
				}
			}
		}
		// A disk of one page tells by its place 0 alone.
		d := disk.New(1)
		must(t, "Write", d.Write(0, even.bytes), api.OK)
		if even.tells.Gen == 0 {
			mustTellNone(t, "one page: "+even.what, d)
		} else {
			mustBeNewest(t, "one page: "+even.what, d, even.tells)
		}
	}
}

// TestNoOtherPageTells: a meta on a page that isn't a place isn't told.
func TestNoOtherPageTells(t *testing.T) {
	d := disk.New(4)
	for _, no := range []int{2, 3} {
		must(t, "Write", d.Write(no, plainPage(uint32(no), saysOf(version(50+uint64(no))))), api.OK)
	}
	mustTellNone(t, "metas on pages 2 and 3", d)
	must(t, "Write", meta.Write(d, version(3)), api.OK)
	mustBeNewest(t, "metas on pages 2 and 3", d, version(3))
}

// TestTheNewestIsTheGreater: by its Gen alone, whichever was written last and whatever else they say.
func TestTheNewestIsTheGreater(t *testing.T) {
	small, great := api.Meta{High: 2}, api.Meta{High: 2048, Root: 2047, Free: 2047}
	gens := []uint64{1, 2, 3, 254, 255, 256, 257, 1<<32 - 1, 1 << 32, 1<<32 + 1, 1<<60 - 1, 1 << 60}
	for _, x := range gens {
		for _, y := range gens {
			if x%2 == y%2 {
				continue
			}
			a, b := small, great
			a.Gen, b.Gen = x, y
			want := a
			if y > x {
				want = b
			}
			mustBeNewest(t, "the elder or the newer first", synced(t, 2, a, b), want)
			mustBeNewest(t, "the elder or the newer first", synced(t, 2, b, a), want)
		}
	}
}

func TestWrittenOver(t *testing.T) {
	d := synced(t, 2, version(5), version(6))
	must(t, "Write over an elder one", meta.Write(d, version(7)), api.OK)
	mustBeNewest(t, "over an elder one", d, version(7))
	must(t, "Write over a newer one", meta.Write(d, version(3)), api.OK)
	mustBeNewest(t, "over a newer one, the other place being newer", d, version(6))
	must(t, "Write over a newer one", meta.Write(d, version(2)), api.OK)
	mustBeNewest(t, "over newer ones", d, version(3))
	must(t, "Write of the same Gen", meta.Write(d, api.Meta{Gen: 3, High: 2}), api.OK)
	mustBeNewest(t, "over the same Gen", d, api.Meta{Gen: 3, High: 2})
	if got := d.Waiting(); !slices.Equal(got, []int{1, 1, 0, 1}) {
		t.Errorf("P6.2: pages %v wait, not 1, 1, 0, 1", got)
	}
	d.Crash([]bool{true, false, true, false}, 2)
	mustBeNewest(t, "the elder place torn", d, version(7))
}

func TestTheChaptersExamples(t *testing.T) {
	d := synced(t, 2, version(1), version(2))
	mustBeNewest(t, "1 and 2, synced", d, version(2))
	must(t, "Write", meta.Write(d, version(3)), api.OK)
	d.Crash([]bool{true}, 0)
	mustBeNewest(t, "3, torn", d, version(2))
	// Both in one sync are told as well.
	e := disk.New(2)
	must(t, "Write", meta.Write(e, version(1)), api.OK)
	must(t, "Write", meta.Write(e, version(2)), api.OK)
	must(t, "Sync", e.Sync(), api.OK)
	mustBeNewest(t, "1 and 2, synced at once", e, version(2))
}

func TestAWriteThatWaits(t *testing.T) {
	for _, c := range []struct {
		what string
		keep []bool
		torn int
		want api.Meta
	}{
		{"lost, without a keep", nil, -1, version(6)},
		{"lost", []bool{false}, -1, version(6)},
		{"lost, and torn", []bool{false}, 0, version(6)},
		{"torn", []bool{true}, 0, version(6)},
		{"survived", []bool{true}, -1, version(7)},
	} {
		d := synced(t, 2, version(5), version(6))
		must(t, "Write", meta.Write(d, version(7)), api.OK)
		mustBeNewest(t, "it waits", d, version(7))
		d.Crash(c.keep, c.torn)
		mustBeNewest(t, c.what, d, c.want)
		// Behind it, the same one is written anew.
		must(t, "Write", meta.Write(d, version(7)), api.OK)
		must(t, "Sync", d.Sync(), api.OK)
		mustBeNewest(t, "written anew", d, version(7))
	}
}

func TestThePowerGoesInTheWrite(t *testing.T) {
	d := synced(t, 2, version(5), version(6))
	d.Arm(1)
	must(t, "the write in which the power goes", meta.Write(d, version(7)), api.Down)
	mustBeNewest(t, "with the power gone it is seen", d, version(7))
	for range 3 {
		must(t, "Write while the power is gone", meta.Write(d, version(8)), api.Down)
		must(t, "Write while the power is gone", meta.Write(d, version(9)), api.Down)
		mustBeNewest(t, "writes while the power is gone", d, version(7))
	}
	if got := d.Waiting(); !slices.Equal(got, []int{1}) {
		t.Errorf("P6.2: pages %v wait, not page 1 alone", got)
	}
	d.Crash([]bool{true, true, true}, -1)
	mustBeNewest(t, "the write in which the power went survived", d, version(7))
	must(t, "Write with the power there again", meta.Write(d, version(8)), api.OK)
	mustBeNewest(t, "with the power there again", d, version(8))
}

// beginning: a disk whose newest meta is safe: one place alone told of, or both, or the other one spoilt.
func beginning(t *testing.T, newest uint64, kind int) *disk.Disk {
	t.Helper()
	d := disk.New(4)
	if kind > 0 && newest > 1 {
		must(t, "Write", meta.Write(d, version(newest-1)), api.OK)
		must(t, "Sync", d.Sync(), api.OK)
	}
	if kind == 2 {
		must(t, "Write", d.Write(int(1-newest%2), bytes.Repeat([]byte{0xA5}, 1024)), api.OK)
		must(t, "Sync", d.Sync(), api.OK)
	}
	must(t, "Write", meta.Write(d, version(newest)), api.OK)
	must(t, "Sync", d.Sync(), api.OK)
	mustBeNewest(t, "as it begins", d, version(newest))
	return d
}

// TestWhereverThePowerGoes: in no act, in the write, in the sync or behind them; each way in which the write that waits may come out.
func TestWhereverThePowerGoes(t *testing.T) {
	ways := []struct {
		keep []bool
		torn int
	}{{nil, -1}, {nil, 0}, {[]bool{false}, -1}, {[]bool{false}, 0}, {[]bool{true}, -1}, {[]bool{true}, 0}, {[]bool{true, true}, 1}}
	for _, newest := range []uint64{1, 2, 3, 255, 256, 1<<32 - 1, 1 << 32, 1<<60 - 2, 1<<60 - 1} {
		for kind := range 3 {
			for goes := range 4 {
				for _, way := range ways {
					d := beginning(t, newest, kind)
					d.Arm(goes)
					wrote := meta.Write(d, version(newest+1))
					synced := d.Sync()
					if (wrote == api.Down) != (goes == 1) || (synced == api.Down) != (goes == 1 || goes == 2) {
						t.Fatalf("P6.2: the power goes in act %d: codes %d and %d", goes, wrote, synced)
					}
					d.Crash(way.keep, way.torn)
					want := version(newest)
					survives := len(way.keep) > 0 && way.keep[0] && way.torn != 0
					if synced == api.OK || survives {
						want = version(newest + 1)
					}
					if got, e := meta.Newest(d); e != api.OK || got != want {
						t.Fatalf("P6.3: newest %d, the power goes in act %d, keep %v, torn %d: %v and code %d, not %v", newest, goes, way.keep, way.torn, got, e, want)
					}
				}
			}
		}
	}
}

// TestAnyHistory: versions are written one above the other, while the power goes now and then.
func TestAnyHistory(t *testing.T) {
	for seed := range 200 {
		random := rand.New(rand.NewSource(int64(seed)))
		first := uint64(1 + random.Intn(300))
		d := synced(t, 5, version(first))
		was := version(first)
		for range 60 {
			next := version(was.Gen + 1)
			d.Arm(random.Intn(7))
			if d.Write(2+random.Intn(3), bytes.Repeat([]byte{byte(next.Gen)}, 1024)) != api.OK || d.Sync() != api.OK {
				d.Crash([]bool{random.Intn(2) == 0}, random.Intn(3)-1)
				mustBeNewest(t, "P6.3: the power went ahead of the meta", d, was)
				continue
			}
			wrote := meta.Write(d, next)
			if wrote == api.OK && d.Sync() == api.OK {
				mustBeNewest(t, "synced", d, next)
				was = next
				continue
			}
			d.Crash([]bool{random.Intn(2) == 0}, random.Intn(3)-1)
			got, e := meta.Newest(d)
			if e != api.OK || got != was && got != next {
				t.Fatalf("P6.3: the power went in writing %v: newest %v and code %d, not it and not %v", next, got, e, was)
			}
			was = got
		}
	}
}

// TestTheFirstMeta: with no newest ahead of it, it is there or there is none.
func TestTheFirstMeta(t *testing.T) {
	for _, torn := range []int{-1, 0} {
		for _, kept := range []bool{false, true} {
			d := disk.New(2)
			d.Arm(1)
			must(t, "Write", meta.Write(d, version(1)), api.Down)
			d.Crash([]bool{kept}, torn)
			if kept && torn != 0 {
				mustBeNewest(t, "the first one survived", d, version(1))
			} else {
				mustTellNone(t, "the first one is lost", d)
			}
		}
	}
}

// TestNewestChangesNothing: it is no act, and writes nothing.
func TestNewestChangesNothing(t *testing.T) {
	d := synced(t, 3, version(5), version(6))
	must(t, "Write", meta.Write(d, version(7)), api.OK)
	var was [][]byte
	for no := range 3 {
		seen, _ := d.Read(no)
		was = append(was, seen, d.Safe(no))
	}
	d.Arm(1)
	for range 5 {
		mustBeNewest(t, "asked again", d, version(7))
	}
	for no := range 3 {
		seen, _ := d.Read(no)
		if !bytes.Equal(seen, was[2*no]) || !bytes.Equal(d.Safe(no), was[2*no+1]) {
			t.Errorf("P6.2: Newest changes page %d", no)
		}
	}
	if got := d.Waiting(); d.Down() || !slices.Equal(got, []int{1}) {
		t.Errorf("P6.2: Newest is an act: pages %v wait", got)
	}
}

func TestWhatIsHandedInStays(t *testing.T) {
	for _, n := range []int{0, 24, 1015, 1016, 1017} {
		whole := append(append([]byte("ahead"), plainSays(77, 300, 7, 9)...), bytes.Repeat([]byte{0xA5}, 100)...)
		was := bytes.Clone(whole)
		got, e := meta.FromPay(whole[5 : 5+n])
		if !bytes.Equal(whole, was) {
			t.Errorf("P6.1: %d bytes were changed by FromPay, or what stands beside them", n)
		}
		clear(whole)
		if n == 1016 && (e != api.OK || got != (api.Meta{Gen: 77, High: 300, Root: 7, Free: 9})) {
			t.Errorf("P6.1: an answer changes with what was handed in: %v and code %d", got, e)
		}
	}
}

// spoil: an answer is written over, and what would be put behind it, too.
func spoil(b []byte) {
	more := append(b, bytes.Repeat([]byte{0x5A}, 64)...)
	for i := range more {
		more[i] = 0x5A
	}
	for i := range b {
		b[i] = 0x5A
	}
}

func TestWhatIsAnsweredIsNewMemory(t *testing.T) {
	for _, m := range goodMetas() {
		first, second := meta.Pay(m), meta.Pay(m)
		spoil(first)
		if !bytes.Equal(second, saysOf(m)[:24]) || !bytes.Equal(meta.Pay(m), saysOf(m)[:24]) {
			t.Fatalf("P6.1: Pay(%v) shares memory with another answer", m)
		}
		d := synced(t, 2, m)
		spoil(meta.Pay(m))
		mustBeNewest(t, "answers written over", d, m)
	}
	spoil(meta.Pay(api.Meta{}))
	if got := meta.Pay(api.Meta{}); len(got) != 0 {
		t.Errorf("P6.1: Pay of no meta: % X, not none", got)
	}
}
