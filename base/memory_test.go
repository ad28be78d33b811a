package base_test

import (
	"bytes"
	"slices"
	"testing"

	"cambium/api"
	"cambium/base"
	"cambium/disk"
)

// spoil: bytes are written over, and what would be put behind them, too.
func spoil(b []byte) {
	b = b[:cap(b)]
	for i := range b {
		b[i] = 0x5A
	}
}

// handIn: bytes are handed to a call; it must leave them, and the room behind them, as they are; then they are written over.
func handIn(t *testing.T, what, text string, call func(b []byte)) {
	t.Helper()
	whole := append([]byte(text), bytes.Repeat([]byte{0xC3}, 2000)...)
	before := bytes.Clone(whole)
	call(whole[:len(text)])
	if !bytes.Equal(whole, before) {
		t.Fatalf("rule 3: %s changed what was handed in", what)
	}
	spoil(whole)
}

// TestWhatIsHandedIn: keys and values stay as they are, and may be written over behind each call.
func TestWhatIsHandedIn(t *testing.T) { // P13.2, P13.3
	d := disk.New(300)
	b := mustOpen(t, d)
	want := trees{}
	for version := uint64(2); version < 5; version++ {
		x := b.Begin(version)
		for i, n := range []int{0, 1, 200, 201, 1010, 5000} {
			key, val := keyOf(i), long(n+int(version))
			handIn(t, "Put, of its key", key, func(k []byte) {
				handIn(t, "Put, of its value", val, func(v []byte) { x.Put("a", k, v) })
			})
			want = want.with("a", key, val)
			handIn(t, "Get", key, func(k []byte) { x.Get("a", k) })
			handIn(t, "Items, of its first key", key, func(from []byte) {
				handIn(t, "Items, of its last key", "z", func(to []byte) { x.Items("a", from, to, 3) })
			})
			mustTell(t, "P13.2: a transaction", x, want)
		}
		handIn(t, "Delete", keyOf(2), func(k []byte) { x.Delete("a", k) })
		want = want.without("a", keyOf(2))
		handIn(t, "Put of a wrong name", "k", func(k []byte) { x.Put("A", k, k) })
		handIn(t, "Put of a long key", long(101), func(k []byte) { x.Put("a", k, nil) })
		handIn(t, "Put of a long value", long(16385), func(v []byte) { x.Put("a", []byte("k"), v) })
		mustTell(t, "P13.2: a transaction", x, want)
		mustCommit(t, b, x, version)
		handIn(t, "Put behind a commit", "k", func(k []byte) { x.Put("a", k, k) })
		v := b.View()
		handIn(t, "Get of a view", keyOf(1), func(k []byte) { v.Get("a", k) })
		handIn(t, "Items of a view", keyOf(1), func(k []byte) { v.Items("a", k, k, 3) })
		mustBe(t, "behind a commit", b, version, want)
		mustBe(t, "opened anew", mustOpen(t, d), version, want)
	}
}

// spoilAnswers: all that a reader answers is written over.
func spoilAnswers(r reader, want trees) {
	for name, all := range want {
		for key := range all {
			val, _ := r.Get(name, []byte(key))
			spoil(val)
		}
		list, _ := r.Items(name, nil, nil, 1000)
		for _, x := range list {
			spoil(x.Key)
			spoil(x.Val)
		}
		clear(list[:cap(list)])
	}
}

// TestWhatIsAnswered: bytes and lists that were answered are written over, and nothing that is told is changed.
func TestWhatIsAnswered(t *testing.T) { // P13.2, P13.3, P13.5
	b := makePair(t, 400)
	for version := range 3 {
		x := b.begin(9)
		for i := range 25 {
			x.put(t, "a", keyOf(i), long(i*i*version))
			x.put(t, "b", keyOf(i), long(3*i))
		}
		mustTell(t, "P13.2: a transaction", x.x, x.plain.all)
		spoilAnswers(x.x, x.plain.all)
		mustTell(t, "rule 3: a transaction whose answers were written over", x.x, x.plain.all)
		v, was := b.base.View(), b.plain.all.copied()
		spoilAnswers(v, was)
		x.drop(t, "b")
		x.commit(t)
		mustTell(t, "rule 3: a view whose answers were written over", v, was)
		spoilAnswers(b.base.View(), b.plain.all)

		list, again := b.base.Roots(), b.base.Roots()
		kept := slices.Clone(again)
		clear(list[:cap(list)])
		if !slices.Equal(again, kept) || !slices.Equal(b.base.Roots(), kept) {
			t.Errorf("rule 3: two answers of Roots share memory")
		}
		spoilBook(t, b.base)
		y := b.base.Begin(9)
		spoilBook(t, b.base)
		y.Abort()
		b.mustAgree(t, "behind answers that were written over")
	}
}

// spoilBook: an account is written over; another one stays, and so does the next.
func spoilBook(t *testing.T, b *base.Base) {
	t.Helper()
	book, other := bookOf(t, b), bookOf(t, b)
	want := api.Book{
		Trees: slices.Clone(other.Trees), Roots: slices.Clone(other.Roots), Lists: slices.Clone(other.Lists),
		Freed: slices.Clone(other.Freed), High: other.High,
	}
	for _, list := range [][]int{book.Trees, book.Roots, book.Lists} {
		list = list[:cap(list)]
		for i := range list {
			list[i] = 7
		}
	}
	clear(book.Freed[:cap(book.Freed)])
	if !slices.Equal(other.Trees, want.Trees) || !slices.Equal(other.Freed, want.Freed) {
		t.Errorf("rule 3: two answers of Account share memory")
	}
	mustBeBook(t, "rule 3: behind an account that was written over", b, want)
}

// TestReadingChangesNothing: what reads, and what tells a code, changes no page, no version and no transaction.
func TestReadingChangesNothing(t *testing.T) { // P13.2, P13.3
	one, two := makePair(t, 60), makePair(t, 60)
	for version := range 4 {
		x, y := one.begin(9), two.begin(9)
		for i := range 6 {
			x.put(t, "a", keyOf(i), long(version*60))
			y.put(t, "a", keyOf(i), long(version*60))
			// Only of the one is more asked.
			mustTell(t, "P13.2: a transaction", x.x, x.plain.all)
			mustNotPut(t, x.x, "Bad", "k", "v", api.Arg)
			mustNotPut(t, x.x, "new", "", "v", api.Arg)
			mustNotPut(t, x.x, "new", "k", long(16385), api.Arg)
			mustNotPut(t, x.x, "a", long(101), "v", api.Arg)
			mustDelete(t, x.x, "a", "no key", api.NotFound)
			mustDelete(t, x.x, "none", "k", api.NotFound)
			mustDrop(t, x.x, "none", api.NotFound)
			one.base.View()
			one.base.Roots()
			one.base.Account()
		}
		x.commit(t)
		y.commit(t)
		mustNotStep(t, x.x, api.State)
		mustBeBook(t, "a base that was asked more", one.base, bookOf(t, two.base))
	}
	for no := range 60 {
		if !bytes.Equal(one.disk.Safe(no), two.disk.Safe(no)) {
			t.Errorf("rule 4: page %d is another one where more was asked", no)
		}
	}
}
