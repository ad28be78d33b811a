package base_test

import (
	"fmt"
	"math"
	"slices"
	"strings"
	"testing"

	"cambium/api"
	"cambium/base"
	"cambium/disk"
	"cambium/node"
	"cambium/pool"
	"cambium/roots"
)

// TestFullInPut: a disk that is full in the midst of a transaction breaks it; the version, and its pages, stay, and another transaction may begin.
func TestFullInPut(t *testing.T) { // P13.3, P13.4, P13.6
	for pages := 4; pages < 60; pages++ {
		b := makePair(t, pages)
		for range 2 {
			x := b.begin(9)
			code := api.OK
			for i := 0; code == api.OK; i++ {
				code = x.put(t, "a", keyOf(i), long(i*100%900))
			}
			if code != api.Full {
				t.Fatalf("P13.3: Put on a full disk: code %d", code)
			}
			mustBeState(t, "P13.3: a transaction that told Full", x.x, "a", keyOf(0))
			b.mustAgree(t, "behind Full")
			y := b.begin(9)
			mustTell(t, "P13.2: a transaction behind a broken one", y.x, b.plain.all)
			mustBeState(t, "P13.3: a broken transaction behind which another was begun", x.x, "a", keyOf(0))
			x.x.Abort()
			y.put(t, "b", "k", "v")
			y.commit(t)
			if pages < 9 {
				break
			}
		}
	}
}

// TestFullInDelete: where a leaf can't be copied.
func TestFullInDelete(t *testing.T) { // P13.3
	b := makePair(t, 4)
	x := b.begin(1)
	x.put(t, "a", "k", "v")
	x.put(t, "a", "l", "v")
	x.commit(t)
	x = b.begin(2)
	if x.delete(t, "a", "k") != api.Full {
		t.Errorf("P13.3: Delete on a full disk isn't Full")
	}
	mustBeState(t, "P13.3: a transaction whose Delete told Full", x.x, "a", "l")
	b.mustAgree(t, "behind Full")
}

// TestFullInStep: no room for the roots' page, or for the pieces; nothing is written then.
func TestFullInStep(t *testing.T) { // P13.4, P13.6
	for _, c := range []struct {
		what   string
		before []string
		then   func(x *pairTx)
	}{
		{"the roots' page", nil, func(x *pairTx) {
			x.put(t, "a", "k", "v")
			x.put(t, "b", "k", "v")
		}},
		{"the first piece", []string{"a"}, func(x *pairTx) { x.drop(t, "a") }},
		{"the roots' page again", []string{"a"}, func(*pairTx) {}},
	} {
		b := makePair(t, 4)
		x := b.begin(1)
		for _, name := range c.before {
			x.put(t, name, "k", "v")
		}
		x.commit(t)
		for range 2 {
			x = b.begin(1)
			c.then(x)
			b.disk.Arm(1)
			mustNotStep(t, x.x, api.Full)
			mustBeState(t, "P13.4: a transaction whose Step told Full", x.x, "a", "k")
			if b.disk.Down() {
				t.Errorf("P13.4: %s: something was written", c.what)
			}
			b.disk.Arm(0)
			b.mustAgree(t, "behind Full")
		}
		x = b.begin(1)
		c.then(x)
		if e := x.x.Commit(); e != api.Full {
			t.Errorf("P13.4: %s: Commit: code %d, not Full", c.what, e)
		}
		mustBeState(t, "P13.4: a transaction whose Commit told Full", x.x, "a", "k")
		b.mustAgree(t, "behind Full")
	}
	// A second piece for which there is no room: the first one was put by then.
	for pages := 90; pages < 100; pages++ {
		b := makePair(t, pages)
		x := b.begin(1)
		for i := range 5 {
			x.put(t, "a", keyOf(i), long(16384))
		}
		x.commit(t)
		x = b.begin(2)
		x.drop(t, "a")
		if e := x.plain.commit(); e != x.x.Commit() {
			t.Errorf("P13.4: %d pages: Commit isn't %d", pages, e)
		}
		b.mustAgree(t, "behind Commit")
	}
}

// faulty: a base of the trees a and b, a page of which was written over on the disk: a's root, or the chain of its great value.
func faulty(t *testing.T, chain bool, says []byte) *base.Base {
	t.Helper()
	b := makePair(t, 40)
	x := b.begin(1)
	if chain {
		x.put(t, "a", "k", long(1500))
	}
	x.put(t, "a", "l", "v")
	x.put(t, "b", "k", "v")
	x.commit(t)
	at := b.base.Roots()[0].Page
	if chain {
		// The last part of a chain is put first, and the leaf behind it all.
		at = 2
	}
	page := frame(t, at, says)
	if says == nil {
		page[0] ^= 1
	}
	write(t, b.disk, at, page)
	b.disk.Sync()
	return mustOpen(t, b.disk)
}

// TestFaultyPages: Sum and Malformed of a tree's pages, and that they break a transaction, and no view.
func TestFaultyPages(t *testing.T) { // P13.2, P13.3, P13.5
	type call struct {
		what string
		does func(x *base.Tx) api.Code
		deep bool // whether the call reads the great value
	}
	calls := []call{
		{"Get", func(x *base.Tx) api.Code { _, e := x.Get("a", []byte("k")); return e }, true},
		{"Get of another key", func(x *base.Tx) api.Code { _, e := x.Get("a", []byte("l")); return e }, false},
		{"Get of no key", func(x *base.Tx) api.Code { _, e := x.Get("a", nil); return e }, false},
		{"Items", func(x *base.Tx) api.Code { _, e := x.Items("a", nil, nil, 9); return e }, true},
		{"Items from a key on", func(x *base.Tx) api.Code { _, e := x.Items("a", []byte("l"), nil, 9); return e }, false},
		{"Put", func(x *base.Tx) api.Code { _, e := x.Put("a", []byte("k"), nil); return e }, true},
		{"Put of another key", func(x *base.Tx) api.Code { _, e := x.Put("a", []byte("m"), nil); return e }, false},
		{"Delete", func(x *base.Tx) api.Code { return x.Delete("a", []byte("k")) }, true},
		{"Delete of another key", func(x *base.Tx) api.Code { return x.Delete("a", []byte("l")) }, false},
		{"Drop", func(x *base.Tx) api.Code { return x.Drop("a") }, true},
	}
	for _, chain := range []bool{false, true} {
		for says, code := range map[string]api.Code{"": api.Sum, "x": api.Malformed} {
			for _, c := range calls {
				var pay []byte
				if says != "" {
					pay = []byte(says)
				}
				b := faulty(t, chain, pay)
				x := b.Begin(2)
				want := code
				if chain && !c.deep {
					want = api.OK
				}
				e := c.does(x)
				if chain && c.what == "Get of no key" {
					want = api.NotFound
				}
				if e != want {
					t.Errorf("P13.3: %s of a faulty tree (%v): code %d, not %d", c.what, chain, e, want)
				}
				if want == code {
					mustBeState(t, "P13.3: a transaction whose "+c.what+" told a fault", x, "b", "k")
				} else {
					mustGet(t, "P13.2: a transaction that isn't broken", x, "b", "k", "v", true)
				}
				v := b.View()
				for range 2 {
					if val, e := v.Get("a", []byte("k")); e != code || val != nil {
						t.Errorf("P13.2: Get of a view: %q and code %d, not none and %d", val, e, code)
					}
					if list, e := v.Items("a", nil, nil, 9); e != code || list != nil {
						t.Errorf("P13.2: Items of a view: %v and code %d, not none and %d", list, e, code)
					}
				}
				mustGet(t, "P13.2: a view", v, "b", "k", "v", true)
				if v.Count("a") == 0 || v.Count("b") != 1 {
					t.Errorf("P13.2: Count of a view")
				}
				if a, e := b.Account(); e != code || a.Trees != nil || a.Roots != nil || a.Lists != nil || a.Freed != nil || a.High != 0 {
					t.Errorf("P13.5: Account: %+v and code %d, not nothing and %d", a, e, code)
				}
				y := b.Begin(2)
				mustPut(t, y, "b", "l", "w", false)
				mustCommit(t, b, y, 3)
			}
		}
	}
}

// TestFaultsBehindACommit: a version is read from the disk, also by the base that made it.
func TestFaultsBehindACommit(t *testing.T) { // P13.2, P13.5
	d := disk.New(20)
	b := mustOpen(t, d)
	x := b.Begin(1)
	mustPut(t, x, "a", "k", "v", false)
	mustCommit(t, b, x, 2)
	v, at := b.View(), b.Roots()[0].Page
	was, _ := d.Read(at)
	write(t, d, at, make([]byte, 1024))
	for _, r := range []reader{v, b.View(), b.Begin(2)} {
		if val, e := r.Get("a", []byte("k")); e != api.Sum || val != nil {
			t.Errorf("P13.2: Get: %q and code %d, not none and Sum", val, e)
		}
	}
	if _, e := b.Account(); e != api.Sum {
		t.Errorf("P13.5: Account: code %d, not Sum", e)
	}
	write(t, d, at, was)
	mustTell(t, "P13.2: a view", v, trees{"a": {"k": "v"}})
	mustBe(t, "the base", b, 2, trees{"a": {"k": "v"}})
}

// leaf: what the page of a leaf of these keys says.
func leaf(keys ...string) []byte {
	l := &node.Leaf{}
	for _, key := range keys {
		l.Cells = append(l.Cells, node.Cell{Key: []byte(key), Inline: []byte("v")})
	}
	return l.Pay()
}

// counted: a base of a tree "a" on page 2, of which its root tells another count than it has.
func counted(t *testing.T, count int, keys ...string) *base.Base {
	t.Helper()
	list := []api.Root{{Name: "a", Page: 2, Count: count}, {Name: "b", Page: 3, Count: 1}}
	says := map[int][]byte{2: leaf(keys...), 3: leaf("k"), 4: roots.Pay(list)}
	return mustOpen(t, craft(t, 20, api.Meta{Gen: 5, High: 5, Root: 4}, says))
}

// TestWrongCounts: roots that tell other counts than their trees have; where a count would come to one that may not be, that is Malformed, and the transaction is broken.
func TestWrongCounts(t *testing.T) { // P13.3
	b := counted(t, 1, "k", "l")
	x := b.Begin(9)
	mustDelete(t, x, "a", "k", api.Malformed)
	mustBeState(t, "P13.3: a transaction that told Malformed", x, "a", "k")
	b = counted(t, math.MaxInt32, "k", "l")
	x = b.Begin(9)
	mustPut(t, x, "a", "k", "w", true)
	mustNotPut(t, x, "a", "m", "w", api.Malformed)
	mustBeState(t, "P13.3: a transaction that told Malformed", x, "a", "k")
	x = b.Begin(9)
	mustDelete(t, x, "a", "k", api.OK)
	mustPut(t, x, "a", "k", "w", false)
	mustDelete(t, x, "a", "k", api.OK)
	mustDelete(t, x, "a", "l", api.OK)
	mustCommit(t, b, x, 6)
	mustBe(t, "behind the last item", b, 6, trees{"b": {"k": "v"}})
	b = counted(t, 7, "k")
	x = b.Begin(9)
	mustDrop(t, x, "a", api.OK)
	mustCommit(t, b, x, 6)
	mustBe(t, "behind Drop", b, 6, trees{"b": {"k": "v"}})
}

// TestRootWithoutPage: a root of no items, as no commit makes it, but a disk may tell it.
func TestRootWithoutPage(t *testing.T) { // P13.2, P13.3
	m := api.Meta{Gen: 5, High: 3, Root: 2}
	list := []api.Root{{Name: "a"}, {Name: "b"}}
	d := craft(t, 20, m, map[int][]byte{2: roots.Pay(list)})
	b := mustOpen(t, d)
	if !slices.Equal(b.Roots(), list) {
		t.Errorf("P13.2: the roots are %v, not %v", b.Roots(), list)
	}
	mustBeBook(t, "roots without pages", b, api.Book{Roots: []int{2}, High: 3})
	mustTell(t, "P13.2: a view", b.View(), trees{"a": {}, "b": {}})
	x := b.Begin(9)
	mustTell(t, "P13.2: a transaction", x, trees{"a": {}, "b": {}})
	mustDelete(t, x, "a", "k", api.NotFound)
	mustPut(t, x, "a", "k", "v", false)
	mustDrop(t, x, "b", api.OK)
	mustCommit(t, b, x, 6)
	mustBe(t, "behind a commit", b, 6, trees{"a": {"k": "v"}})
}

// TestAccountOfSharedPages: two trees that have one page are Malformed, as is a tree that reaches one twice.
func TestAccountOfSharedPages(t *testing.T) { // P13.5
	m := api.Meta{Gen: 5, High: 6, Root: 4}
	twice := (&node.Branch{Keys: [][]byte{[]byte("l")}, Kids: []int{2, 2}}).Pay()
	for _, c := range []struct {
		list []api.Root
		code api.Code
	}{
		{[]api.Root{{Name: "a", Page: 2, Count: 1}, {Name: "b", Page: 3, Count: 1}}, api.OK},
		{[]api.Root{{Name: "a", Page: 3, Count: 1}, {Name: "b", Page: 2, Count: 1}}, api.OK},
		{[]api.Root{{Name: "a", Page: 2, Count: 1}, {Name: "b", Page: 2, Count: 1}}, api.Malformed},
		{[]api.Root{{Name: "a", Page: 2, Count: 1}, {Name: "b", Page: 3, Count: 1}, {Name: "c", Page: 2, Count: 1}}, api.Malformed},
		{[]api.Root{{Name: "a", Page: 5, Count: 2}}, api.Malformed},
		{[]api.Root{{Name: "a", Page: 4, Count: 2}, {Name: "b", Page: 9, Count: 1}}, api.Malformed},
		{[]api.Root{{Name: "a", Page: 9, Count: 2}, {Name: "b", Page: 4, Count: 1}}, api.Sum},
		{[]api.Root{{Name: "a", Page: 2, Count: 1}, {Name: "b", Page: 300, Count: 1}}, api.Sum},
	} {
		d := craft(t, 20, m, map[int][]byte{2: leaf("k"), 3: leaf("k"), 4: roots.Pay(c.list), 5: twice})
		b := mustOpen(t, d)
		if c.code == api.OK {
			mustBeBook(t, fmt.Sprint(c.list), b, api.Book{Trees: []int{2, 3}, Roots: []int{4}, High: 6})
			continue
		}
		if a, e := b.Account(); e != c.code || a.Trees != nil || a.Roots != nil || a.High != 0 {
			t.Errorf("P13.5: Account of %v: %+v and code %d, not nothing and %d", c.list, a, e, c.code)
		}
	}
}

// TestLastVersion: behind the greatest number of a version there is none: the meta can't be written, and all stays as it was.
func TestLastVersion(t *testing.T) { // P13.4
	d := craft(t, 20, api.Meta{Gen: 1<<60 - 1, High: 2}, nil)
	b := mustOpen(t, d)
	x := b.Begin(1 << 61)
	mustPut(t, x, "a", "k", "v", false)
	mustCommit(t, b, x, 1<<60)
	for range 2 {
		x = b.Begin(1 << 61)
		mustPut(t, x, "a", "k", "w", true)
		mustStep(t, x, false)
		mustStep(t, x, false)
		mustNotStep(t, x, api.Arg)
		if e := x.Commit(); e != api.Arg {
			t.Errorf("P13.4: Commit behind the last version: code %d, not Arg", e)
		}
		mustGet(t, "P13.2: the transaction", x, "a", "k", "w", true)
		x.Abort()
		mustBe(t, "the last version", b, 1<<60, trees{"a": {"k": "v"}})
		mustBe(t, "the last version, opened anew", mustOpen(t, d), 1<<60, trees{"a": {"k": "v"}})
	}
}

// TestWrongCalls: calls with all kinds of arguments end, and none changes what the base tells.
func TestWrongCalls(t *testing.T) { // P13.2, P13.3
	b := makePair(t, 60)
	x := b.begin(1)
	x.put(t, "a", "k", "v")
	x.commit(t)
	v := b.base.View()
	for _, name := range []string{"", "a", "A", "\xff\xfe", strings.Repeat("a", 1<<16)} {
		for _, key := range []string{"", "k", strings.Repeat("\xff", 1<<16)} {
			for _, most := range []int{math.MinInt, 0, math.MaxInt} {
				v.Items(name, []byte(key), []byte(key), most)
				v.Get(name, []byte(key))
				v.Count(name)
				x := b.base.Begin(uint64(most))
				x.Items(name, nil, []byte(key), most)
				x.Put(name, []byte(key), []byte(key))
				x.Delete(name, []byte(key))
				x.Drop(name)
				x.Trim()
				x.Abort()
				x.Abort()
			}
		}
	}
	b.mustAgree(t, "behind wrong calls")
	mustTell(t, "P13.2: a view", v, trees{"a": {"k": "v"}})
	// A chain of pieces that is left behind is as any other freed page.
	d := craft(t, 20, api.Meta{Gen: 5, High: 9, Free: 3}, map[int][]byte{3: pool.Pay(freed(2, 4, 5, 6), 7), 7: pool.Pay(nil, 8), 8: pool.Pay(nil, 0)})
	o := mustOpen(t, d)
	y := o.Begin(9)
	mustCommit(t, o, y, 6)
	mustBeBook(t, "three pieces where one is enough", o, api.Book{Lists: []int{2}, Freed: []api.Freed{{Page: 3, Gen: 6}, {Page: 4, Gen: 3}, {Page: 5, Gen: 3}, {Page: 6, Gen: 3}, {Page: 7, Gen: 6}, {Page: 8, Gen: 6}}, High: 9})
}

// TestBrokenMidway: a fault that is told in the midst of a commit breaks the transaction too; the version stays.
func TestBrokenMidway(t *testing.T) { // P13.3, P13.4
	for steps := range 4 {
		d := disk.New(40)
		b := mustOpen(t, d)
		x := b.Begin(1)
		mustPut(t, x, "a", "k", "v", false)
		mustPut(t, x, "b", "k", "v", false)
		mustCommit(t, b, x, 2)
		at := b.Roots()[0].Page
		was, _ := d.Read(at)
		x = b.Begin(2)
		mustPut(t, x, "b", "k", "w", true)
		for range steps {
			mustStep(t, x, false)
		}
		write(t, d, at, make([]byte, 1024))
		if _, e := x.Get("a", []byte("k")); e != api.Sum {
			t.Errorf("P13.2: Get: code %d, not Sum", e)
		}
		mustBeState(t, "P13.3: a transaction that told Sum", x, "b", "k")
		write(t, d, at, was)
		mustBeState(t, "P13.3: a transaction that told Sum once", x, "a", "k")
		x.Abort()
		mustBe(t, "behind the Abort", b, 2, trees{"a": {"k": "v"}, "b": {"k": "v"}})
		mustBe(t, "opened anew", mustOpen(t, d), 2, trees{"a": {"k": "v"}, "b": {"k": "v"}})
	}
}
