package base_test

import (
	"bytes"
	"fmt"
	"slices"
	"testing"

	"cambium/api"
	"cambium/base"
	"cambium/disk"
	"cambium/meta"
	"cambium/page"
	"cambium/pool"
	"cambium/roots"
)

// story is a disk at version 4, of three trees, pages of which were freed; and what the next version is to have.
type story struct {
	disk *disk.Disk
	was  trees
	will trees
}

// makeStory: the disk of it, all of which is safe.
func makeStory(t *testing.T) story {
	t.Helper()
	d := disk.New(24)
	b := mustOpen(t, d)
	was := trees{}
	for version := uint64(2); version < 5; version++ {
		x := b.Begin(version - 1)
		for i, name := range []string{"a", "b", "c"} {
			val := long(int(version)*i*30 + 1)
			mustPut(t, x, name, "k", val, version > 2)
			was = was.with(name, "k", val)
		}
		mustCommit(t, b, x, version)
	}
	mustBe(t, "the story", b, 4, was)
	return story{d, was, was.with("a", "k", "another").without("b", "k").with("d", "k", long(1500))}
}

// begin: the story's base, and a transaction by which it goes on.
func (s story) begin(t *testing.T) (*disk.Disk, *base.Base, *base.Tx) {
	t.Helper()
	d := copyDisk(t, s.disk)
	b := mustOpen(t, d)
	x := b.Begin(4)
	mustPut(t, x, "a", "k", "another", true)
	mustDelete(t, x, "b", "k", api.OK)
	mustPut(t, x, "d", "k", long(1500), false)
	return d, b, x
}

// mustGoOn: the disk's base, opened anew, is at this version, and takes another transaction.
func mustGoOn(t *testing.T, what string, d *disk.Disk, version uint64, want trees) {
	t.Helper()
	b := mustOpen(t, d)
	mustBe(t, what, b, version, want)
	x := b.Begin(version)
	for i := range 4 {
		mustPut(t, x, "on", keyOf(i), long(100), false)
		want = want.with("on", keyOf(i), long(100))
	}
	mustCommit(t, b, x, version+1)
	mustBe(t, what+", and behind one more commit", mustOpen(t, d), version+1, want)
}

// stepped: a transaction of which so many steps of the commit are done.
func (s story) stepped(t *testing.T, steps int) (*disk.Disk, *base.Base, *base.Tx) {
	t.Helper()
	d, b, x := s.begin(t)
	for i := range steps {
		mustStep(t, x, i == 3)
	}
	return d, b, x
}

// TestSteps: what each of the four steps does, and what is told between.
func TestSteps(t *testing.T) { // P13.4
	s := makeStory(t)
	d, b, x := s.begin(t)
	book := bookOf(t, b)
	v, m := b.View(), api.Meta{}
	for steps := range 5 {
		what := fmt.Sprintf("P13.4: behind %d steps", steps)
		mustTell(t, what, v, s.was)
		if steps < 4 {
			mustBe(t, what, b, 4, s.was)
			mustBeBook(t, what, b, book)
			mustTell(t, what, x, s.will)
		}
		newest, _ := meta.Newest(d)
		switch steps {
		case 0, 2:
			if len(d.Waiting()) != 0 || newest.Gen != 4 {
				t.Errorf("%s: the pages %v wait", what, d.Waiting())
			}
		case 1:
			if !slices.IsSorted(d.Waiting()) || d.Waiting()[0] < 2 || newest.Gen != 4 {
				t.Errorf("%s: the pages %v wait", what, d.Waiting())
			}
		case 3:
			if !slices.Equal(d.Waiting(), []int{1}) || newest.Gen != 5 {
				t.Errorf("%s: the pages %v wait, and the newest meta is %v", what, d.Waiting(), newest)
			}
			m = newest
		case 4:
			if len(d.Waiting()) != 0 || newest != m {
				t.Errorf("%s: the pages %v wait, and the newest meta is %v", what, d.Waiting(), newest)
			}
			mustBe(t, what, b, 5, s.will)
			mustBeState(t, what, x, "a", "k")
			continue
		}
		mustStep(t, x, steps == 3)
	}
	mustBeSaid(t, b, d, m)
}

// mustBeSaid: the pages that a meta leads to say the base's roots and freed pages.
func mustBeSaid(t *testing.T, b *base.Base, d *disk.Disk, m api.Meta) {
	t.Helper()
	says := func(no int) []byte {
		b, _ := d.Read(no)
		pay, e := page.Open(no, b)
		if e != api.OK {
			t.Fatalf("P13.4: page %d: code %d", no, e)
		}
		return pay
	}
	list, e := roots.FromPay(says(m.Root))
	if e != api.OK || !slices.Equal(list, b.Roots()) {
		t.Errorf("P13.4: the roots' page says %v, not %v", list, b.Roots())
	}
	book := bookOf(t, b)
	var got []api.Freed
	var pages []int
	for no := m.Free; no != 0; {
		piece, next, e := pool.FromPay(says(no))
		if e != api.OK {
			t.Fatalf("P13.4: the piece %d: code %d", no, e)
		}
		got, pages = append(got, piece...), append(pages, no)
		no = next
	}
	slices.Sort(pages)
	if !slices.Equal(got, book.Freed) || !slices.Equal(pages, book.Lists) || m.High != book.High || !slices.Equal(book.Roots, []int{m.Root}) {
		t.Errorf("P13.4: the pieces %v say %v below %d, not %+v", pages, got, m.High, book)
	}
}

// TestPiecesAreCut: the freed ones are told by rising pages, as many in each piece as may be.
func TestPiecesAreCut(t *testing.T) { // P13.4
	for _, horizon := range []uint64{0, 9} {
		d := disk.New(600)
		b := mustOpen(t, d)
		x := b.Begin(1)
		for i := range 14 {
			mustPut(t, x, "a", keyOf(i), long(16384), false)
		}
		mustPut(t, x, "b", "k", "v", false)
		mustCommit(t, b, x, 2)
		for version := uint64(3); version < 6; version++ {
			x = b.Begin(horizon)
			if version == 3 {
				mustDrop(t, x, "a", api.OK)
			}
			mustCommit(t, b, x, version)
			m, _ := meta.Newest(d)
			mustBeSaid(t, b, d, m)
			left := len(bookOf(t, b).Freed)
			for no := m.Free; no != 0; {
				p, _ := d.Read(no)
				pay, _ := page.Open(no, p)
				piece, next, _ := pool.FromPay(pay)
				if len(piece) != min(left, 84) {
					t.Errorf("P13.4: a piece of %d, with %d left", len(piece), left)
				}
				left -= len(piece)
				no = next
			}
		}
	}
}

// TestHowManyPieces: as many pages are put as the freed ones, with those of the pieces that were, need pieces; those that these pages then are aren't freed any more.
func TestHowManyPieces(t *testing.T) { // P13.4, P13.5
	for _, n := range []int{1, 2, 83, 84, 85, 86, 87, 167, 168, 169, 170, 251, 252, 253, 254, 336, 337} {
		for olds := 1; olds < 4 && olds <= n; olds++ {
			for _, horizon := range []uint64{0, 3} {
				// Freed are the pages behind those of the pieces, each of which may have fewer than it could.
				says := map[int][]byte{}
				count := n - olds
				high := 2 + olds + count
				for i := range olds {
					var piece []api.Freed
					for no := 2 + olds + i; no < high; no += olds {
						piece = append(piece, api.Freed{Page: no, Gen: 3})
					}
					says[2+i] = pool.Pay(piece[:min(84, len(piece))], (2+i+1)*min(1, olds-i-1))
					count -= len(piece) - min(84, len(piece))
				}
				if count != n-olds {
					continue
				}
				b := mustOpen(t, craft(t, 500, api.Meta{Gen: 4, High: high, Free: 2}, says))
				x := b.Begin(horizon)
				mustCommit(t, b, x, 5)
				book := bookOf(t, b)
				mustBeParted(t, "pieces", book)
				pieces := (n + 83) / 84
				left, mark := n, high+pieces
				if horizon == 3 {
					used := min(pieces, n-olds)
					left, mark = n-used, high+pieces-used
				}
				if len(book.Lists) != pieces || len(book.Freed) != left || book.High != mark {
					t.Errorf("P13.4: of %d freed pages, up to %d: %d pieces, %d freed below %d, not %d, %d and %d",
						n, horizon, len(book.Lists), len(book.Freed), book.High, pieces, left, mark)
				}
			}
		}
	}
}

// TestFirstStepSyncsNothing: what an aborted transaction wrote waits on, till another one's second step.
func TestFirstStepSyncsNothing(t *testing.T) { // P13.4
	d := disk.New(30)
	b := mustOpen(t, d)
	var waits []int
	for range 3 {
		x := b.Begin(1)
		mustPut(t, x, "a", "k", "v", false)
		mustStep(t, x, false)
		waits = append(waits, 2, 3)
		if !slices.Equal(d.Waiting(), waits) {
			t.Errorf("P13.4: the pages %v wait, not %v", d.Waiting(), waits)
		}
	}
	x := b.Begin(1)
	mustCommit(t, b, x, 2)
	mustGoOn(t, "opened anew", d, 2, trees{})
}

// TestEmptyTransaction: one in which nothing is done makes a version, too.
func TestEmptyTransaction(t *testing.T) { // P13.4, P13.5
	d := disk.New(4)
	b := mustOpen(t, d)
	for version := uint64(2); version < 9; version++ {
		x := b.Begin(version)
		mustStep(t, x, false)
		if len(d.Waiting()) != 0 {
			t.Errorf("P13.4: pages of a version that has nothing wait")
		}
		mustCommit(t, b, x, version)
		mustBe(t, "an empty version", mustOpen(t, d), version, trees{})
		mustBeBook(t, "an empty version", b, api.Book{High: 2})
		if m, e := meta.Newest(d); e != api.OK || m != (api.Meta{Gen: version, High: 2}) {
			t.Errorf("P13.4: the meta %v and code %d of an empty version", m, e)
		}
	}
	p := makePair(t, 40)
	x := p.begin(1)
	x.put(t, "a", "k", "v")
	x.commit(t)
	for range 9 {
		x = p.begin(99)
		x.commit(t)
	}
}

// TestCommitMidway: Commit does what steps are left.
func TestCommitMidway(t *testing.T) { // P13.4
	s := makeStory(t)
	for steps := range 4 {
		d, b, x := s.stepped(t, steps)
		mustCommit(t, b, x, 5)
		mustBe(t, "behind Commit", b, 5, s.will)
		mustBeState(t, "P13.4: a committed transaction", x, "a", "k")
		x.Abort()
		mustBe(t, "behind Abort of a committed transaction", b, 5, s.will)
		d.Crash(nil, 0)
		mustGoOn(t, "opened anew", d, 5, s.will)
	}
}

// TestWriteMidway: behind the first step of a commit a transaction isn't written any more, and the commit goes on.
func TestWriteMidway(t *testing.T) { // P13.3, P13.4
	s := makeStory(t)
	for steps := 1; steps < 4; steps++ {
		d, b, x := s.stepped(t, steps)
		mustBeClosed(t, fmt.Sprintf("P13.3: behind %d steps", steps), x, "a", "k")
		mustTell(t, "P13.2: a transaction in the midst of its commit", x, s.will)
		mustCommit(t, b, x, 5)
		mustGoOn(t, "opened anew", d, 5, s.will)
	}
}

// leave: what ends a transaction without its commit.
type leave struct {
	what string
	does func(b *base.Base, x *base.Tx)
}

var leaves = []leave{
	{"Abort", func(_ *base.Base, x *base.Tx) { x.Abort() }},
	{"Begin", func(b *base.Base, _ *base.Tx) { b.Begin(4) }},
}

// TestAbort: Abort, and the beginning of another transaction, behind each step leave all as it was: the base, what a disk that is opened anew tells, and what it tells behind a loss of power, whatever survives.
func TestAbort(t *testing.T) { // P13.3, P13.4, P13.6
	s := makeStory(t)
	for _, l := range leaves {
		for steps := range 4 {
			what := fmt.Sprintf("%s behind %d steps", l.what, steps)
			d, b, x := s.stepped(t, steps)
			v, book := b.View(), bookOf(t, b)
			l.does(b, x)
			mustBeState(t, what, x, "a", "k")
			mustTell(t, what, v, s.was)
			mustBe(t, what, b, 4, s.was)
			mustBeBook(t, what, b, book)
			mustBe(t, what+", opened anew", mustOpen(t, d), 4, s.was)
			y := b.Begin(4)
			mustTell(t, what+", the next transaction", y, s.was)
			mustBeState(t, what, x, "a", "k")
			x.Abort()
			mustPut(t, y, "e", "k", long(900), false)
			mustCommit(t, b, y, 5)
			mustBe(t, what+", and another commit", b, 5, s.was.with("e", "k", long(900)))
			d.Crash(nil, 0)
			mustGoOn(t, what+", and another commit, opened anew", d, 5, s.was.with("e", "k", long(900)))

			waits := 0
			for i := 0; i < 1<<waits; i++ {
				d, b, x := s.stepped(t, steps)
				l.does(b, x)
				waits = len(d.Waiting())
				d.Crash(bits(i, waits), i%8)
				mustGoOn(t, what+", behind a loss of power", d, 4, s.was)
			}
		}
	}
}

// bits: as many truths as are asked for, by a number's bits.
func bits(number, count int) []bool {
	out := make([]bool, count)
	for i := range out {
		out[i] = number>>i&1 == 1
	}
	return out
}

// TestAbortTwice: behind its end a transaction's Abort is nothing, also where another one is under way.
func TestAbortTwice(t *testing.T) { // P13.4
	s := makeStory(t)
	for _, l := range leaves {
		for steps := range 5 {
			d, b, x := s.stepped(t, steps)
			want, version := s.was, uint64(4)
			if steps == 4 {
				want, version = s.will, 5
			}
			l.does(b, x)
			y := b.Begin(9)
			mustPut(t, y, "e", "k", "v", false)
			for range 3 {
				x.Abort()
				mustTell(t, "P13.4: a transaction ahead of which another one was aborted twice", y, want.with("e", "k", "v"))
				mustStep(t, y, false)
			}
			x.Abort()
			mustStep(t, y, true)
			mustGoOn(t, "opened anew", d, version+1, want.with("e", "k", "v"))
		}
	}
}

// TestAbortBehindPower: the power came again, and the disk was opened anew, ahead of an Abort: that changes nothing any more.
func TestAbortBehindPower(t *testing.T) { // P13.4, P13.6
	s := makeStory(t)
	for _, l := range leaves {
		for _, kept := range []bool{false, true} {
			d, b, x := s.stepped(t, 3)
			d.Crash([]bool{kept}, -1)
			want, version := s.was, uint64(4)
			if kept {
				want, version = s.will, 5
			}
			before := copyDisk(t, d)
			l.does(b, x)
			for no := range d.Pages() {
				seen, _ := d.Read(no)
				if !bytes.Equal(seen, before.Safe(no)) {
					t.Errorf("P13.4: %s behind a loss of power wrote page %d", l.what, no)
				}
			}
			mustGoOn(t, "opened anew", d, version, want)
		}
	}
}
