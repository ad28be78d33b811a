package base_test

import (
	"bytes"
	"fmt"
	"maps"
	"slices"
	"strings"
	"testing"

	"cambium/api"
	"cambium/base"
	"cambium/disk"
	"cambium/meta"
	"cambium/page"
	"cambium/pager"
	"cambium/pool"
	"cambium/roots"
	"cambium/tree"
)

// items is what a tree is to have: values by their keys.
type items map[string]string

// trees is what a version is to have: trees with items, by their names.
type trees map[string]items

// reader is a view, or a transaction.
type reader interface {
	Get(name string, key []byte) ([]byte, api.Code)
	Items(name string, from, to []byte, most int) ([]api.Item, api.Code)
	Count(name string) int
}

// with: the trees with an item more, or in place of that of its key.
func (x trees) with(name, key, val string) trees {
	out := x.copied()
	if out[name] == nil {
		out[name] = items{}
	}
	out[name][key] = val
	return out
}

// without: the trees without an item.
func (x trees) without(name, key string) trees {
	out := x.copied()
	delete(out[name], key)
	if len(out[name]) == 0 {
		delete(out, name)
	}
	return out
}

// copied: the same trees in memory of their own.
func (x trees) copied() trees {
	out := trees{}
	for name, all := range x {
		out[name] = maps.Clone(all)
	}
	return out
}

// long: so many bytes, of which no two parts are alike.
func long(n int) string {
	var out strings.Builder
	for i := 0; out.Len() < n; i++ {
		fmt.Fprintf(&out, "%d,", i)
	}
	return out.String()[:n]
}

// keyOf: one of many keys, in their numbers' order.
func keyOf(i int) string { return fmt.Sprintf("key %04d", i) }

// mustOpen: the base of a disk that has one.
func mustOpen(t *testing.T, d *disk.Disk) *base.Base {
	t.Helper()
	b, e := base.Open(d)
	if e != api.OK || b == nil {
		t.Fatalf("P13.1: Open: %v and code %d, not a base and OK", b, e)
	}
	return b
}

// mustNotOpen: Open tells a code, and no base.
func mustNotOpen(t *testing.T, what string, d *disk.Disk, code api.Code) {
	t.Helper()
	if b, e := base.Open(d); e != code || b != nil {
		t.Errorf("P13.1: Open of %s: %v and code %d, not none and %d", what, b, e, code)
	}
}

// mustPut: Put answers OK, and whether there was an item of this key.
func mustPut(t *testing.T, x *base.Tx, name, key, val string, want bool) {
	t.Helper()
	if was, e := x.Put(name, []byte(key), []byte(val)); e != api.OK || was != want {
		t.Fatalf("P13.3: Put(%q, %q, %d bytes): %v and code %d, not %v and OK", name, key, len(val), was, e, want)
	}
}

// mustNotPut: Put answers a code.
func mustNotPut(t *testing.T, x *base.Tx, name, key, val string, code api.Code) {
	t.Helper()
	if was, e := x.Put(name, []byte(key), []byte(val)); e != code || was {
		t.Errorf("P13.3: Put(%q, %d bytes, %d bytes): %v and code %d, not false and %d", name, len(key), len(val), was, e, code)
	}
}

// mustDelete: Delete answers this code.
func mustDelete(t *testing.T, x *base.Tx, name, key string, code api.Code) {
	t.Helper()
	if e := x.Delete(name, []byte(key)); e != code {
		t.Fatalf("P13.3: Delete(%q, %q): code %d, not %d", name, key, e, code)
	}
}

// mustDrop: Drop answers this code.
func mustDrop(t *testing.T, x *base.Tx, name string, code api.Code) {
	t.Helper()
	if e := x.Drop(name); e != code {
		t.Fatalf("P13.3: Drop(%q): code %d, not %d", name, e, code)
	}
}

// mustTrim: Trim answers OK, and so many.
func mustTrim(t *testing.T, x *base.Tx, want int) {
	t.Helper()
	if n, e := x.Trim(); e != api.OK || n != want {
		t.Errorf("P13.3: Trim: %d and code %d, not %d and OK", n, e, want)
	}
}

// mustStep: Step answers OK, and whether that was the last.
func mustStep(t *testing.T, x *base.Tx, want bool) {
	t.Helper()
	if last, e := x.Step(); e != api.OK || last != want {
		t.Fatalf("P13.4: Step: %v and code %d, not %v and OK", last, e, want)
	}
}

// mustNotStep: Step answers a code.
func mustNotStep(t *testing.T, x *base.Tx, code api.Code) {
	t.Helper()
	if last, e := x.Step(); e != code || last {
		t.Errorf("P13.4: Step: %v and code %d, not false and %d", last, e, code)
	}
}

// mustCommit: Commit answers OK, and the base is at this version.
func mustCommit(t *testing.T, b *base.Base, x *base.Tx, version uint64) {
	t.Helper()
	if e := x.Commit(); e != api.OK || b.Version() != version {
		t.Fatalf("P13.4: Commit: code %d, and version %d, not OK and %d", e, b.Version(), version)
	}
}

// mustBeState: each call of a transaction but Abort tells State.
func mustBeState(t *testing.T, what string, x *base.Tx, name, key string) {
	t.Helper()
	if val, e := x.Get(name, []byte(key)); e != api.State || val != nil {
		t.Errorf("%s: Get: %q and code %d, not none and State", what, val, e)
	}
	if list, e := x.Items(name, nil, nil, 9); e != api.State || list != nil {
		t.Errorf("%s: Items: %v and code %d, not none and State", what, list, e)
	}
	if n := x.Count(name); n != 0 {
		t.Errorf("%s: Count: %d, not 0", what, n)
	}
	mustBeClosed(t, what, x, name, key)
	mustNotStep(t, x, api.State)
	if e := x.Commit(); e != api.State {
		t.Errorf("%s: Commit: code %d, not State", what, e)
	}
}

// mustBeClosed: each call by which a transaction is written tells State, whatever else it could tell.
func mustBeClosed(t *testing.T, what string, x *base.Tx, name, key string) {
	t.Helper()
	for _, name := range []string{name, "Bad", "", "new"} {
		for _, key := range []string{key, "", "new"} {
			mustNotPut(t, x, name, key, "v", api.State)
			mustNotPut(t, x, name, key, long(17000), api.State)
			mustDelete(t, x, name, key, api.State)
		}
		mustDrop(t, x, name, api.State)
	}
	if n, e := x.Trim(); e != api.State || n != 0 {
		t.Errorf("%s: Trim: %d and code %d, not 0 and State", what, n, e)
	}
}

// mustGet: Get answers what it should: this value, or NotFound.
func mustGet(t *testing.T, what string, r reader, name, key, want string, there bool) {
	t.Helper()
	val, e := r.Get(name, []byte(key))
	if there && (e != api.OK || string(val) != want) {
		t.Fatalf("%s: Get(%q, %q): %d bytes and code %d, not %d bytes and OK", what, name, key, len(val), e, len(want))
	}
	if !there && (e != api.NotFound || val != nil) {
		t.Fatalf("%s: Get(%q, %q): %q and code %d, not none and NotFound", what, name, key, val, e)
	}
}

// mustItems: Items answers just these.
func mustItems(t *testing.T, what string, r reader, name, from, to string, most int, want []api.Item) {
	t.Helper()
	list, e := r.Items(name, []byte(from), []byte(to), most)
	same := func(a, b api.Item) bool { return bytes.Equal(a.Key, b.Key) && bytes.Equal(a.Val, b.Val) }
	if e != api.OK || !slices.EqualFunc(list, want, same) {
		t.Fatalf("%s: Items(%q, %q, %q, %d): %d items and code %d, not %d and OK", what, name, from, to, most, len(list), e, len(want))
	}
}

// inOrder: items by rising keys.
func inOrder(all items) []api.Item {
	var out []api.Item
	for _, key := range slices.Sorted(maps.Keys(all)) {
		out = append(out, api.Item{Key: []byte(key), Val: []byte(all[key])})
	}
	return out
}

// mustTell: a view, or a transaction, tells just these trees.
func mustTell(t *testing.T, what string, r reader, want trees) {
	t.Helper()
	names := append(slices.Sorted(maps.Keys(want)), "none", "", "Bad", strings.Repeat("a", 25))
	for _, name := range names {
		all := want[name]
		if n := r.Count(name); n != len(all) {
			t.Fatalf("%s: Count(%q): %d, not %d", what, name, n, len(all))
		}
		mustItems(t, what, r, name, "", "", len(all)+1, inOrder(all))
		for key, val := range all {
			mustGet(t, what, r, name, key, val, true)
		}
		for _, key := range []string{"", "no key", strings.Repeat("k", 101)} {
			mustGet(t, what, r, name, key, "", false)
		}
	}
}

// mustBe: a base is at this version, which has just these trees, and whose pages are parted.
func mustBe(t *testing.T, what string, b *base.Base, version uint64, want trees) {
	t.Helper()
	v := b.View()
	if b.Version() != version || v.Version() != version {
		t.Fatalf("%s: version %d, and a view of version %d, not %d", what, b.Version(), v.Version(), version)
	}
	mustTell(t, what, v, want)
	list := b.Roots()
	if !roots.May(list) || len(list) != len(want) {
		t.Fatalf("%s: the roots %v, not %d", what, list, len(want))
	}
	for _, r := range list {
		if r.Page == 0 || r.Count != len(want[r.Name]) {
			t.Fatalf("%s: the root %v, of a tree of %d items", what, r, len(want[r.Name]))
		}
	}
	mustBeParted(t, what, bookOf(t, b))
}

// bookOf: all pages of a base's version.
func bookOf(t *testing.T, b *base.Base) api.Book {
	t.Helper()
	book, e := b.Account()
	if e != api.OK {
		t.Fatalf("P13.5: Account: code %d", e)
	}
	return book
}

// pagesOf: the pages of freed ones.
func pagesOf(list []api.Freed) []int {
	var out []int
	for _, f := range list {
		out = append(out, f.Page)
	}
	return out
}

// mustBeParted: pages 2 and up below High are each used once, or freed, never both; each list rises.
func mustBeParted(t *testing.T, what string, a api.Book) {
	t.Helper()
	var all []int
	for _, list := range [][]int{a.Trees, a.Roots, a.Lists, pagesOf(a.Freed)} {
		if !slices.IsSorted(list) {
			t.Fatalf("P13.5: %s: the pages %v don't rise", what, list)
		}
		all = append(all, list...)
	}
	slices.Sort(all)
	for i, no := range all {
		if no != i+2 {
			t.Fatalf("P13.6: %s: the pages %+v aren't each of 2 and up once", what, a)
		}
	}
	if a.High != len(all)+2 {
		t.Fatalf("P13.6: %s: %d pages and a high mark of %d", what, len(all), a.High)
	}
}

// mustBeBook: a base's pages are just these.
func mustBeBook(t *testing.T, what string, b *base.Base, want api.Book) {
	t.Helper()
	a := bookOf(t, b)
	if !slices.Equal(a.Trees, want.Trees) || !slices.Equal(a.Roots, want.Roots) || !slices.Equal(a.Lists, want.Lists) ||
		!slices.Equal(a.Freed, want.Freed) || a.High != want.High {
		t.Fatalf("P13.5: %s: the pages %+v, not %+v", what, a, want)
	}
}

// plain is a base by the chapter's words, on a disk of its own, done at once and without regard to power.
type plain struct {
	disk   *disk.Disk
	meta   api.Meta
	list   []api.Root
	pieces []int
	pool   *pool.Pool
	all    trees
}

// plainTx is a transaction by the chapter's words.
type plainTx struct {
	base    *plain
	pager   *pager.Pager
	horizon uint64
	list    []api.Root
	all     trees
	broken  bool
}

// makePlain: version 1.
func makePlain(pages int) *plain {
	l, _ := pool.New(pages, 2, nil)
	return &plain{disk: disk.New(pages), meta: api.Meta{Gen: 1, High: 2}, pool: l, all: trees{}}
}

func (b *plain) begin(horizon uint64) *plainTx {
	if horizon > b.meta.Gen {
		horizon = b.meta.Gen
	}
	p := pager.New(b.disk, b.pool, b.meta.Gen+1, horizon)
	return &plainTx{base: b, pager: p, horizon: horizon, list: slices.Clone(b.list), all: b.all.copied()}
}

// book: all pages of the version.
func (b *plain) book(t *testing.T) api.Book {
	t.Helper()
	out := api.Book{Lists: slices.Sorted(slices.Values(b.pieces)), Freed: b.pool.List(), High: b.pool.High()}
	if b.meta.Root != 0 {
		out.Roots = []int{b.meta.Root}
	}
	p := pager.New(b.disk, b.pool, 0, 0)
	for _, r := range b.list {
		pages, e := tree.Pages(p, r.Page)
		if e != api.OK {
			t.Fatalf("the test's own tree %v: code %d", r, e)
		}
		out.Trees = append(out.Trees, pages...)
	}
	slices.Sort(out.Trees)
	return out
}

// ends: a code that a call tells.
func (x *plainTx) ends(code api.Code) api.Code {
	x.broken = x.broken || code == api.Full || code == api.Sum || code == api.Malformed
	return code
}

// place: where the root of a name stands.
func (x *plainTx) place(name string) int {
	return slices.IndexFunc(x.list, func(r api.Root) bool { return r.Name == name })
}

func (x *plainTx) put(name, key, val string) (bool, api.Code) {
	if x.broken {
		return false, api.State
	}
	r := api.Root{Name: name}
	at := x.place(name)
	switch {
	case at >= 0:
		r = x.list[at]
	case name == "", len(name) > 24, strings.Trim(name, "abcdefghijklmnopqrstuvwxyz-") != "":
		return false, api.Arg
	case len(x.list) == 12:
		return false, api.Limit
	}
	root, was, e := tree.Put(x.pager, r.Page, []byte(key), []byte(val))
	if e != api.OK {
		return false, x.ends(e)
	}
	x.all = x.all.with(name, key, val)
	x.rooted(name, root)
	return was, api.OK
}

// rooted: a tree has this root, and as many items as it is to have.
func (x *plainTx) rooted(name string, root int) {
	x.list = slices.DeleteFunc(x.list, func(r api.Root) bool { return r.Name == name })
	if root != 0 {
		x.list = append(x.list, api.Root{Name: name, Page: root, Count: len(x.all[name])})
	}
	slices.SortFunc(x.list, func(a, b api.Root) int { return strings.Compare(a.Name, b.Name) })
}

func (x *plainTx) delete(name, key string) api.Code {
	if x.broken {
		return api.State
	}
	at := x.place(name)
	if at < 0 {
		return api.NotFound
	}
	root, e := tree.Delete(x.pager, x.list[at].Page, []byte(key))
	if e != api.OK {
		return x.ends(e)
	}
	x.all = x.all.without(name, key)
	x.rooted(name, root)
	return api.OK
}

func (x *plainTx) drop(name string) api.Code {
	if x.broken {
		return api.State
	}
	at := x.place(name)
	if at < 0 {
		return api.NotFound
	}
	if e := tree.Drop(x.pager, x.list[at].Page); e != api.OK {
		return x.ends(e)
	}
	delete(x.all, name)
	x.rooted(name, 0)
	return api.OK
}

func (x *plainTx) trim() (int, api.Code) {
	if x.broken {
		return 0, api.State
	}
	return x.pager.Pool().Trim(x.horizon), api.OK
}

// commit: all four steps, and the base is at the new version.
func (x *plainTx) commit() api.Code {
	if x.broken {
		return api.State
	}
	b, p := x.base, x.pager
	if b.meta.Root != 0 {
		p.Drop(b.meta.Root)
	}
	for _, no := range b.pieces {
		p.Drop(no)
	}
	m := api.Meta{Gen: b.meta.Gen + 1}
	if len(x.list) > 0 {
		no, e := p.Put(roots.Pay(x.list))
		if e != api.OK {
			return x.ends(e)
		}
		m.Root = no
	}
	var pieces []int
	for range (len(p.Pool().List()) + 83) / 84 {
		no, e := p.Put(nil)
		if e != api.OK {
			return x.ends(e)
		}
		pieces = append(pieces, no)
	}
	freed := p.Pool().List()
	for i, no := range slices.Backward(pieces) {
		from, to := min(84*i, len(freed)), min(84*i+84, len(freed))
		p.Set(no, pool.Pay(freed[from:to], m.Free))
		m.Free = no
	}
	m.High = p.Pool().High()
	p.Flush()
	b.disk.Sync()
	b.meta, b.list, b.pieces, b.pool, b.all = m, x.list, pieces, p.Pool(), x.all
	return api.OK
}

// pair is a base, and one by the chapter's words, of which each call must answer the same.
type pair struct {
	disk  *disk.Disk
	base  *base.Base
	plain *plain
}

// pairTx is a transaction of both.
type pairTx struct {
	pair  *pair
	x     *base.Tx
	plain *plainTx
}

// makePair: version 1 of both.
func makePair(t *testing.T, pages int) *pair {
	t.Helper()
	d := disk.New(pages)
	return &pair{d, mustOpen(t, d), makePlain(pages)}
}

func (b *pair) begin(horizon uint64) *pairTx {
	return &pairTx{b, b.base.Begin(horizon), b.plain.begin(horizon)}
}

// mustAgree: both are at the same version, which has the same pages; opened anew it is the same.
func (b *pair) mustAgree(t *testing.T, what string) {
	t.Helper()
	for _, o := range []*base.Base{b.base, mustOpen(t, b.disk)} {
		mustBe(t, what, o, b.plain.meta.Gen, b.plain.all)
		if list := o.Roots(); !slices.Equal(list, b.plain.list) {
			t.Fatalf("P13.2: %s: the roots %v, not %v", what, list, b.plain.list)
		}
		mustBeBook(t, what, o, b.plain.book(t))
	}
	if m, e := meta.Newest(b.disk); e != api.OK || m.Gen != b.plain.meta.Gen || m.High != b.plain.meta.High || m.Root != b.plain.meta.Root {
		t.Fatalf("P13.4: %s: the meta %v and code %d, not %v", what, m, e, b.plain.meta)
	}
}

// same: two answers of one call.
func same[T comparable](t *testing.T, what string, got T, code api.Code, want T, wantCode api.Code) {
	t.Helper()
	if got != want || code != wantCode {
		t.Fatalf("%s: %v and code %d, not %v and %d", what, got, code, want, wantCode)
	}
}

func (x *pairTx) put(t *testing.T, name, key, val string) api.Code {
	t.Helper()
	was, e := x.x.Put(name, []byte(key), []byte(val))
	want, code := x.plain.put(name, key, val)
	same(t, fmt.Sprintf("P13.3: Put(%q, %q, %d bytes)", name, key, len(val)), was, e, want, code)
	return e
}

func (x *pairTx) delete(t *testing.T, name, key string) api.Code {
	t.Helper()
	e, want := x.x.Delete(name, []byte(key)), x.plain.delete(name, key)
	same(t, fmt.Sprintf("P13.3: Delete(%q, %q)", name, key), 0, e, 0, want)
	return e
}

func (x *pairTx) drop(t *testing.T, name string) api.Code {
	t.Helper()
	e, want := x.x.Drop(name), x.plain.drop(name)
	same(t, fmt.Sprintf("P13.3: Drop(%q)", name), 0, e, 0, want)
	return e
}

func (x *pairTx) trim(t *testing.T) int {
	t.Helper()
	n, e := x.x.Trim()
	want, code := x.plain.trim()
	same(t, "P13.3: Trim", n, e, want, code)
	return n
}

// commit: both are committed, and agree.
func (x *pairTx) commit(t *testing.T) api.Code {
	t.Helper()
	e, want := x.x.Commit(), x.plain.commit()
	same(t, "P13.4: Commit", 0, e, 0, want)
	x.pair.mustAgree(t, "behind Commit")
	return e
}

// craft: a disk on which a meta, and pages that say this, are safe; a page of which nothing is said has bytes 0.
func craft(t *testing.T, pages int, m api.Meta, says map[int][]byte) *disk.Disk {
	t.Helper()
	d := disk.New(pages)
	for no, pay := range says {
		write(t, d, no, frame(t, no, pay))
	}
	if e := meta.Write(d, m); e != api.OK {
		t.Fatalf("meta.Write(%v): code %d", m, e)
	}
	d.Sync()
	return d
}

// frame: a page that says this.
func frame(t *testing.T, no int, pay []byte) []byte {
	t.Helper()
	b, e := page.Frame(no, pay)
	if e != api.OK {
		t.Fatalf("page.Frame(%d): code %d", no, e)
	}
	return b
}

// write: a page's bytes come to a disk.
func write(t *testing.T, d *disk.Disk, no int, b []byte) {
	t.Helper()
	if e := d.Write(no, b); e != api.OK {
		t.Fatalf("Write(%d): code %d", no, e)
	}
}

// copyDisk: a disk whose safe pages are those of another one.
func copyDisk(t *testing.T, d *disk.Disk) *disk.Disk {
	t.Helper()
	out := disk.New(d.Pages())
	for no := range d.Pages() {
		write(t, out, no, d.Safe(no))
	}
	out.Sync()
	return out
}
