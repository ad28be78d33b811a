package base_test

import (
	"bytes"
	"fmt"
	"math"
	"slices"
	"strings"
	"testing"

	"cambium/api"
	"cambium/disk"
	"cambium/meta"
	"cambium/pool"
	"cambium/roots"
)

// firstMeta: what page 1 has behind version 1 was written.
func firstMeta(t *testing.T) []byte {
	t.Helper()
	return frame(t, 1, append([]byte("CAMB"), 0, 0, 0, 0, 0, 0, 0, 1, 0, 0, 0, 2, 0, 0, 0, 0, 0, 0, 0, 0))
}

// TestOpenNew: new disks of all kinds of sizes.
func TestOpenNew(t *testing.T) { // P13.1, P13.2, P13.5
	for _, pages := range []int{-1, 0, 1, 2, 3} {
		d := disk.New(pages)
		mustNotOpen(t, fmt.Sprintf("%d pages", pages), d, api.Arg)
		if len(d.Waiting()) != 0 || d.Pages() > 1 && !bytes.Equal(d.Safe(1), make([]byte, 1024)) {
			t.Errorf("P13.1: %d pages: something was written", pages)
		}
		d.Arm(1)
		d.Sync()
		mustNotOpen(t, "few pages, with the power gone", d, api.Arg)
	}
	for _, pages := range []int{4, 5, 100, api.MaxPages, api.MaxPages + 1} {
		d := disk.New(pages)
		b := mustOpen(t, d)
		mustBe(t, "a new disk", b, 1, trees{})
		mustBeBook(t, "a new disk", b, api.Book{High: 2})
		if len(d.Waiting()) != 0 || !bytes.Equal(d.Safe(1), firstMeta(t)) {
			t.Errorf("P13.1: %d pages: version 1 isn't safe", pages)
		}
		for no := range d.Pages() {
			if no != 1 && !bytes.Equal(d.Safe(no), make([]byte, 1024)) {
				t.Errorf("P13.1: %d pages: page %d was written", pages, no)
			}
		}
	}
}

// TestOpenFewPages: a disk of fewer than 4 pages has no base, though it has a meta.
func TestOpenFewPages(t *testing.T) { // P13.1
	for pages := 2; pages < 4; pages++ {
		d := craft(t, pages, api.Meta{Gen: 1, High: 2}, nil)
		mustNotOpen(t, "few pages with a meta", d, api.Arg)
	}
	mustBe(t, "4 pages with a meta", mustOpen(t, craft(t, 4, api.Meta{Gen: 1, High: 2}, nil)), 1, trees{})
}

// TestOpenWithoutMeta: a disk that has something else is version 1, and but for its meta stays as it is.
func TestOpenWithoutMeta(t *testing.T) { // P13.1
	d := disk.New(8)
	for no := range 8 {
		write(t, d, no, bytes.Repeat([]byte{byte(no + 1)}, 1024))
	}
	// Metas that stand at a wrong place, or say what none does.
	write(t, d, 0, frame(t, 0, meta.Pay(api.Meta{Gen: 9, High: 4})))
	write(t, d, 1, frame(t, 1, []byte("CAMB")))
	d.Sync()
	before := copyDisk(t, d)
	b := mustOpen(t, d)
	mustBe(t, "a disk without a meta", b, 1, trees{})
	for no := range 8 {
		want := before.Safe(no)
		if no == 1 {
			want = firstMeta(t)
		}
		if !bytes.Equal(d.Safe(no), want) {
			t.Errorf("P13.1: page %d is another one", no)
		}
	}
	// The pages are used as those of any new disk.
	x := b.Begin(1)
	mustPut(t, x, "a", "k", "v", false)
	mustCommit(t, b, x, 2)
	mustBe(t, "behind a commit", mustOpen(t, d), 2, trees{"a": {"k": "v"}})
}

// TestOpenAgain: a disk that has a version is opened without an act, behind a power cut too, and though the power is gone.
func TestOpenAgain(t *testing.T) { // P13.1, P13.6
	d := disk.New(9)
	mustOpen(t, d)
	d.Crash(nil, 0)
	if !bytes.Equal(d.Safe(1), firstMeta(t)) {
		t.Errorf("P13.1: version 1 is lost")
	}
	for range 2 {
		d.Arm(1)
		mustBe(t, "version 1 again", mustOpen(t, d), 1, trees{})
		if d.Down() {
			t.Fatalf("P13.1: there was an act in which the power could go")
		}
	}
	d.Sync()
	if !d.Down() {
		t.Fatalf("the power is to be gone")
	}
	mustBe(t, "version 1, with the power gone", mustOpen(t, d), 1, trees{})
}

// TestOpenWithoutPower: the power is gone, or goes in each act of the first opening; whatever survives, the disk is opened then.
func TestOpenWithoutPower(t *testing.T) { // P13.1, P13.6
	d := disk.New(4)
	d.Arm(1)
	d.Sync()
	mustNotOpen(t, "a disk whose power is gone", d, api.Down)
	if len(d.Waiting()) != 0 {
		t.Errorf("P13.1: something was written without power")
	}
	for act := 1; act <= 3; act++ {
		for _, keep := range [][]bool{nil, {false}, {true}} {
			for torn := -1; torn < 1; torn++ {
				d := disk.New(4)
				d.Arm(act)
				if act < 3 {
					mustNotOpen(t, fmt.Sprintf("a disk whose power goes in act %d", act), d, api.Down)
				} else {
					mustOpen(t, d)
				}
				d.Crash(keep, torn)
				b := mustOpen(t, d)
				mustBe(t, "opened anew", b, 1, trees{})
				x := b.Begin(1)
				mustPut(t, x, "a", "k", "v", false)
				mustCommit(t, b, x, 2)
				mustBe(t, "opened anew, behind a commit", mustOpen(t, d), 2, trees{"a": {"k": "v"}})
			}
		}
	}
}

// TestOpenVersions: versions of no roots, of one, of as many as there may be, are the same when the disk is opened anew.
func TestOpenVersions(t *testing.T) { // P13.1, P13.2, P13.5
	for _, count := range []int{0, 1, 2, 11, 12} {
		b := makePair(t, 100)
		for round := range 3 {
			x := b.begin(uint64(round))
			for i := range count {
				x.put(t, strings.Repeat(string(rune('a'+i)), 2*i+1), keyOf(round), long(i*90))
			}
			x.commit(t)
		}
		if n := len(b.base.Roots()); n != count {
			t.Errorf("P13.2: %d roots, not %d", n, count)
		}
		b.disk.Crash(nil, -1)
		b.base = mustOpen(t, b.disk)
		b.mustAgree(t, "opened anew")
	}
}

// TestOpenNewestOnly: of two metas the newest one counts, and nothing that the other one tells is read; where the newest is torn, it is the other one.
func TestOpenNewestOnly(t *testing.T) { // P13.1
	b := makePair(t, 60)
	for round := range 4 {
		x := b.begin(9)
		x.put(t, "a", "k", fmt.Sprint(round))
		x.commit(t)
		d := copyDisk(t, b.disk)
		newest := int(b.plain.meta.Gen % 2)
		elder := meta.Pay(api.Meta{Gen: b.plain.meta.Gen - 1, High: 60, Root: 58, Free: 59})
		write(t, d, 1-newest, frame(t, 1-newest, elder))
		mustBe(t, "with an elder meta of pages that aren't there", mustOpen(t, d), b.plain.meta.Gen, b.plain.all)
		write(t, d, newest, make([]byte, 1024))
		mustNotOpen(t, "an elder meta of pages that aren't there", d, api.Sum)
		write(t, d, 1-newest, make([]byte, 1024))
		mustBe(t, "with both metas gone", mustOpen(t, d), 1, trees{})
	}
}

// freed: pages that were freed in version 3.
func freed(pages ...int) []api.Freed {
	var out []api.Freed
	for _, no := range pages {
		out = append(out, api.Freed{Page: no, Gen: 3})
	}
	return out
}

// TestOpenFaultyRoots: the page of the roots is torn, isn't there, or says something else.
func TestOpenFaultyRoots(t *testing.T) { // P13.1
	list := []api.Root{{Name: "a", Page: 5, Count: 3}, {Name: "b", Page: 7, Count: 1}}
	says := roots.Pay(list)
	m := api.Meta{Gen: 6, High: 9, Root: 4}
	good := craft(t, 9, m, map[int][]byte{4: says})
	if b := mustOpen(t, good); b.Version() != 6 || !slices.Equal(b.Roots(), list) || b.View().Count("a") != 3 {
		t.Errorf("P13.1: version %d with the roots %v, not 6 and %v", b.Version(), b.Roots(), list)
	}
	mustNotOpen(t, "a page of roots that isn't there", craft(t, 9, m, nil), api.Sum)
	d := craft(t, 9, m, map[int][]byte{4: says})
	write(t, d, 4, frame(t, 5, says))
	mustNotOpen(t, "a page of roots that belongs elsewhere", d, api.Sum)
	for at := range 1024 {
		b := frame(t, 4, says)
		b[at] ^= 1
		write(t, d, 4, b)
		mustNotOpen(t, fmt.Sprintf("a page of roots whose byte %d is another one", at), d, api.Sum)
	}
	if !slices.Equal(d.Waiting(), slices.Repeat([]int{4}, 1025)) {
		t.Errorf("P13.1: Open that tells a code wrote something")
	}
	for _, other := range [][]byte{
		nil, says[:3], []byte("CROo\x00"), append(bytes.Clone(says), 1), []byte("CROO\x0D"), pool.Pay(nil, 0),
		[]byte("CROO\x01\x01A\x00\x00\x00\x05\x00\x00\x00\x01"), []byte("CROO\x01\x01a\x00\x00\x00\x05\x00\x00\x00\x00"),
	} {
		mustNotOpen(t, fmt.Sprintf("roots that say %q", other), craft(t, 9, m, map[int][]byte{4: other}), api.Malformed)
	}
	m.High, m.Root = 12, 10
	mustNotOpen(t, "roots behind the disk's end", craft(t, 9, m, nil), api.Sum)
}

// TestOpenPieces: pieces of all kinds of lengths, in any order, make a pool.
func TestOpenPieces(t *testing.T) { // P13.1, P13.5
	var row []int
	for no := 20; no < 190; no++ {
		row = append(row, no)
	}
	for _, c := range []struct {
		first int
		says  map[int][]byte
		lists []int
		freed []int
	}{
		{0, nil, nil, nil},
		{7, map[int][]byte{7: pool.Pay(nil, 0)}, []int{7}, nil},
		{199, map[int][]byte{199: pool.Pay(freed(2), 0)}, []int{199}, []int{2}},
		{5, map[int][]byte{5: pool.Pay(freed(9, 8, 2), 3), 3: pool.Pay(nil, 6), 6: pool.Pay(freed(4, 198), 0)}, []int{3, 5, 6}, []int{2, 4, 8, 9, 198}},
		{5, map[int][]byte{5: pool.Pay(freed(row[:84]...), 3), 3: pool.Pay(freed(row[84:168]...), 6), 6: pool.Pay(freed(row[168:]...), 0)}, []int{3, 5, 6}, row},
		// What is freed is told as it stands, though it is used, too: a page's being parted isn't asked of a disk.
		{5, map[int][]byte{5: pool.Pay(freed(5), 0)}, []int{5}, []int{5}},
	} {
		b := mustOpen(t, craft(t, 200, api.Meta{Gen: 4, High: 200, Free: c.first}, c.says))
		if b.Version() != 4 {
			t.Errorf("P13.2: version %d, not 4", b.Version())
		}
		mustBeBook(t, "pieces", b, api.Book{Lists: c.lists, Freed: freed(c.freed...), High: 200})
	}
}

// TestOpenFaultyPieces: a piece is torn, isn't there, or says something else; the pieces don't end, or make no pool.
func TestOpenFaultyPieces(t *testing.T) { // P13.1
	m := api.Meta{Gen: 4, High: 20, Free: 5}
	for _, c := range []struct {
		what string
		says map[int][]byte
		code api.Code
	}{
		{"a first piece that isn't there", nil, api.Sum},
		{"a second piece that isn't there", map[int][]byte{5: pool.Pay(freed(9), 6)}, api.Sum},
		{"a second piece behind the disk's end", map[int][]byte{5: pool.Pay(freed(9), 20)}, api.Sum},
		{"a second piece at the last number", map[int][]byte{5: pool.Pay(freed(9), math.MaxInt32)}, api.Sum},
		{"a first piece that says nothing", map[int][]byte{5: []byte("x")}, api.Malformed},
		{"a first piece with bytes behind it", map[int][]byte{5: append(pool.Pay(freed(9), 0), 1)}, api.Malformed},
		{"a second piece that says something else", map[int][]byte{5: pool.Pay(freed(9), 6), 6: []byte("CROO")}, api.Malformed},
		{"a second piece at the meta's place", map[int][]byte{5: pool.Pay(freed(9), 1), 1: meta.Pay(api.Meta{Gen: 3, High: 2})}, api.Malformed},
		{"a piece that leads to itself", map[int][]byte{5: pool.Pay(nil, 5)}, api.Malformed},
		{"two pieces that lead to each other", map[int][]byte{5: pool.Pay(freed(9), 6), 6: pool.Pay(freed(8), 5)}, api.Malformed},
		{"a third piece that leads to the second", map[int][]byte{5: pool.Pay(freed(9), 6), 6: pool.Pay(freed(8), 7), 7: pool.Pay(freed(3), 6)}, api.Malformed},
		{"a freed page 0", map[int][]byte{5: pool.Pay(freed(0), 0)}, api.Malformed},
		{"a freed page 1", map[int][]byte{5: pool.Pay(freed(9, 1), 0)}, api.Malformed},
		{"a freed page at the high mark", map[int][]byte{5: pool.Pay(freed(20), 0)}, api.Malformed},
		{"a freed page at the last number", map[int][]byte{5: pool.Pay(freed(math.MaxInt32), 0)}, api.Malformed},
		{"a page that is freed twice", map[int][]byte{5: pool.Pay(freed(9, 8, 9), 0)}, api.Malformed},
		{"a page that is freed in two pieces", map[int][]byte{5: pool.Pay(freed(9), 6), 6: pool.Pay(freed(9), 0)}, api.Malformed},
	} {
		d := craft(t, 20, m, c.says)
		mustNotOpen(t, c.what, d, c.code)
		if len(d.Waiting()) != 0 {
			t.Errorf("P13.1: %s: Open that tells a code wrote something", c.what)
		}
	}
	for no := 5; no < 7; no++ {
		d := craft(t, 20, m, map[int][]byte{5: pool.Pay(freed(9), 6), 6: pool.Pay(freed(8), 0)})
		mustOpen(t, d)
		for at := range 1024 {
			b, _ := d.Read(no)
			b[at] ^= 0x80
			torn := copyDisk(t, d)
			write(t, torn, no, b)
			mustNotOpen(t, fmt.Sprintf("piece %d whose byte %d is another one", no, at), torn, api.Sum)
		}
	}
}

// TestOpenFewerPages: a meta of more pages than the disk has makes no pool.
func TestOpenFewerPages(t *testing.T) { // P13.1
	for high := 2; high <= 40; high++ {
		d := craft(t, 20, api.Meta{Gen: 4, High: high}, nil)
		if high > 20 {
			mustNotOpen(t, "a disk that has fewer pages than were used", d, api.Malformed)
		} else if b := mustOpen(t, d); bookOf(t, b).High != high {
			t.Errorf("P13.5: the high mark is %d, not %d", bookOf(t, b).High, high)
		}
	}
}

// TestOpenManyPieces: as many pieces as a disk may have are read to their end.
func TestOpenManyPieces(t *testing.T) { // P13.1
	says := map[int][]byte{}
	for no := 2; no < api.MaxPages-1; no++ {
		says[no] = pool.Pay(nil, no+1)
	}
	m := api.Meta{Gen: 1 << 60, High: api.MaxPages, Free: 2}
	for _, last := range []int{0, api.MaxPages - 1, 2} {
		says[api.MaxPages-1] = pool.Pay(nil, last)
		d := craft(t, api.MaxPages, m, says)
		if last != 0 {
			mustNotOpen(t, "as many pieces as may be, that don't end", d, api.Malformed)
		} else if b := mustOpen(t, d); len(bookOf(t, b).Lists) != api.MaxPages-2 || b.Version() != 1<<60 {
			t.Errorf("P13.1: %d pieces of version %d", len(bookOf(t, b).Lists), b.Version())
		}
	}
}

// TestTwoBases: a base hangs on its disk alone.
func TestTwoBases(t *testing.T) { // P13.1, P13.2
	d, other := disk.New(20), disk.New(20)
	b, o := mustOpen(t, d), mustOpen(t, other)
	x, y := b.Begin(1), o.Begin(1)
	mustPut(t, x, "a", "k", "of the one", false)
	mustPut(t, y, "a", "k", "of the other", false)
	mustCommit(t, b, x, 2)
	mustBe(t, "the other", o, 1, trees{})
	mustCommit(t, o, y, 2)
	mustBe(t, "the one", mustOpen(t, d), 2, trees{"a": {"k": "of the one"}})
	mustBe(t, "the other", mustOpen(t, other), 2, trees{"a": {"k": "of the other"}})
}
