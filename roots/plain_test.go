package roots_test

import (
	"bytes"
	"encoding/binary"
	"math"
	"slices"
	"strings"
	"testing"

	"cambium/api"
	"cambium/roots"
)

// letters: what a name is made of, in their order.
const letters = "-abcdefghijklmnopqrstuvwxyz"

// plainRoot: whether a root is one, by the chapter's words.
func plainRoot(r api.Root) bool {
	switch {
	case len(r.Name) == 0, len(r.Name) > 24, strings.Trim(r.Name, letters) != "":
		return false
	case r.Page == 0 && r.Count == 0:
		return true
	case r.Page < 2, r.Page > 2147483647:
		return false
	}
	return r.Count > 0 && r.Count <= 2147483647
}

// plainMay: whether they are roots, by the chapter's words.
func plainMay(list []api.Root) bool {
	names := namesOf(list)
	sorted := slices.Compact(slices.Sorted(slices.Values(names)))
	return len(list) <= 12 && slices.Equal(names, sorted) && !slices.ContainsFunc(list, func(r api.Root) bool { return !plainRoot(r) })
}

// namesOf: the names of a list, in its order.
func namesOf(list []api.Root) []string {
	var out []string
	for _, r := range list {
		out = append(out, r.Name)
	}
	return out
}

// plainSays: what a page says whose head tells this many, of a list, be they roots or not.
func plainSays(count int, list []api.Root) []byte {
	out := []byte{0x43, 0x52, 0x4F, 0x4F, byte(count)}
	for _, r := range list {
		out = append(append(out, byte(len(r.Name))), r.Name...)
		out = binary.BigEndian.AppendUint32(out, uint32(r.Page))
		out = binary.BigEndian.AppendUint32(out, uint32(r.Count))
	}
	return out
}

// saysOf: what the page of a list says.
func saysOf(list []api.Root) []byte {
	return plainSays(len(list), list)
}

// filled: a page that says this, as far as it goes, and bytes 0 behind it.
func filled(says []byte) []byte {
	return append(bytes.Clone(says), make([]byte, 1016)...)[:1016]
}

// plainFrom: the roots of which bytes are what a page says, found by saying them again.
func plainFrom(b []byte) ([]api.Root, bool) {
	if len(b) != 1016 {
		return nil, false
	}
	var list []api.Root
	rest := bytes.NewReader(b[5:])
	for range b[4] {
		n, _ := rest.ReadByte()
		name := make([]byte, n)
		var page, count uint32
		rest.Read(name)
		binary.Read(rest, binary.BigEndian, &page)
		binary.Read(rest, binary.BigEndian, &count)
		list = append(list, api.Root{Name: string(name), Page: int(page), Count: int(count)})
	}
	if !plainMay(list) || !bytes.Equal(filled(saysOf(list)), b) {
		return nil, false
	}
	return list, true
}

// plainWith: the roots with this one, put in order anew.
func plainWith(list []api.Root, r api.Root) ([]api.Root, api.Code) {
	if !plainRoot(r) {
		return nil, api.Arg
	}
	byName := map[string]api.Root{}
	for _, o := range append(slices.Clone(list), r) {
		byName[o.Name] = o
	}
	if len(byName) > 12 {
		return nil, api.Limit
	}
	return inOrder(byName), api.OK
}

// plainWithout: the roots but that of the name.
func plainWithout(list []api.Root, name string) []api.Root {
	byName := map[string]api.Root{}
	for _, o := range list {
		byName[o.Name] = o
	}
	delete(byName, name)
	return inOrder(byName)
}

// inOrder: roots by their names.
func inOrder(byName map[string]api.Root) []api.Root {
	var out []api.Root
	for _, r := range byName {
		out = append(out, r)
	}
	slices.SortFunc(out, func(x, y api.Root) int { return strings.Compare(x.Name, y.Name) })
	return out
}

// root: one whose other fields belong to its name alone.
func root(name string) api.Root {
	return api.Root{Name: name, Page: 2 + len(name), Count: 1000 + len(name)}
}

// named: roots of these names, the numbers of each its own.
func named(names ...string) []api.Root {
	var out []api.Root
	for i, name := range names {
		out = append(out, api.Root{Name: name, Page: 2 + 3*i, Count: 100 + i})
	}
	return out
}

// many: so many roots, by rising names of two letters.
func many(n int) []api.Root {
	var names []string
	for i := range n {
		names = append(names, string([]byte{letters[1+i/5], letters[1+i%5*2]}))
	}
	return named(names...)
}

// long: roots as long as may be, up to the greatest page.
func long(n int) []api.Root {
	var out []api.Root
	for i := range n {
		out = append(out, api.Root{Name: letters[1+i:2+i] + strings.Repeat("z", 23), Page: math.MaxInt32 - i, Count: math.MaxInt32})
	}
	return out
}

// goodLists: roots, ordinary ones and those at the edges.
func goodLists() [][]api.Root {
	return [][]api.Root{
		nil,
		{},
		{{Name: "a"}},
		{{Name: "spans", Page: 2, Count: 1}},
		{{Name: "op", Page: 7, Count: 3}, {Name: "spans", Page: 9, Count: 1 << 20}, {Name: "zero"}},
		{{Name: "-", Page: math.MaxInt32, Count: math.MaxInt32}, {Name: "--"}, {Name: "-a", Page: 2, Count: 2}, {Name: "z"}},
		{{Name: "a", Page: 0x01020304, Count: 0x05060708}, {Name: "aa", Page: 0x7F000000, Count: 1}, {Name: "ab", Page: 0xFF00, Count: 0x7F0000FF}},
		{{Name: "zzzzzzzzzzzzzzzzzzzzzzzz", Page: 3, Count: 9}},
		{{Name: "abcdefghijklmnopqrstuvwx", Page: 300, Count: 256}, {Name: "yz-", Page: 5, Count: 255}},
		// Two trees with one page: nothing says that their pages aren't the same.
		{{Name: "a", Page: 5, Count: 1}, {Name: "b", Page: 5, Count: 1}},
		many(2), many(11), many(12), long(1), long(11), long(12),
	}
}

// mustFrom: FromPay answers what the chapter says.
func mustFrom(t *testing.T, what string, b []byte) {
	t.Helper()
	want, ok := plainFrom(b)
	code := api.Malformed
	if ok {
		code = api.OK
	}
	if got, e := roots.FromPay(b); e != code || !slices.Equal(got, want) {
		t.Errorf("P12.1: FromPay of %s: %v and code %d, not %v and %d", what, got, e, want, code)
	}
}

// mustBeMalformed: FromPay refuses it.
func mustBeMalformed(t *testing.T, what string, b []byte) {
	t.Helper()
	if got, e := roots.FromPay(b); e != api.Malformed || len(got) != 0 {
		t.Errorf("P12.1: FromPay of %s: %v and code %d, not none and Malformed", what, got, e)
	}
}

// mustFind: Find answers just this.
func mustFind(t *testing.T, list []api.Root, name string, want api.Root, wantOK bool) {
	t.Helper()
	if got, ok := roots.Find(list, name); ok != wantOK || got != want {
		t.Errorf("P12.2: Find(%v, %q): %v and %v, not %v and %v", list, name, got, ok, want, wantOK)
	}
}

// mustWith: With answers just this.
func mustWith(t *testing.T, list []api.Root, r api.Root, want []api.Root, code api.Code) {
	t.Helper()
	if got, e := roots.With(list, r); e != code || !slices.Equal(got, want) {
		t.Errorf("P12.2: With(%v, %v): %v and code %d, not %v and %d", list, r, got, e, want, code)
	}
}

// mustWithout: Without answers just this.
func mustWithout(t *testing.T, list []api.Root, name string, want []api.Root) {
	t.Helper()
	if got := roots.Without(list, name); !slices.Equal(got, want) {
		t.Errorf("P12.2: Without(%v, %q): %v, not %v", list, name, got, want)
	}
}
