package tree_test

import (
	"fmt"
	"maps"
	"slices"
	"strings"
	"testing"

	"cambium/api"
	"cambium/disk"
	"cambium/node"
	"cambium/pager"
	"cambium/tree"
)

// shape is how long the leaves below each branch are; of one branch alone that is the root.
type shape [][]int

// sized: items that make a leaf of this length, all of whose keys begin with a prefix; as many of them as may be have values of most bytes.
func sized(prefix string, length, most int) items {
	out := items{}
	least := 3 + len(prefix) + 2
	for rest := length - 3; rest > 0; {
		n := min(rest, least+most)
		if rest > n && rest-n < least {
			n -= least
		}
		out[fmt.Sprintf("%s%02d", prefix, len(out))] = strings.Repeat("v", n-least)
		rest -= n
	}
	return out
}

// prefixOf: how the keys of a leaf begin, which have so many bytes.
func prefixOf(branch, leaf, keyLen int) string {
	out := fmt.Sprintf("%02d%02d", branch, leaf)
	return out + strings.Repeat("k", keyLen-2-len(out))
}

// row: leaves of the same length.
func row(n, length int) []int {
	return slices.Repeat([]int{length}, n)
}

// build: a tree of a shape, by hand; its keys, and those between its kids, have so many bytes.
func build(t *testing.T, p *pager.Pager, keyLen, most int, s shape) (int, items) {
	t.Helper()
	all := items{}
	var top []int
	var between []string
	for i, lengths := range s {
		var kids []int
		var keys []string
		for j, length := range lengths {
			l := sized(prefixOf(i, j, keyLen), length, most)
			all = union(all, l)
			kids = append(kids, putLeaf(t, p, l))
			keys = append(keys, prefixOf(i, j, keyLen)+"00")
		}
		top = append(top, putBranch(t, p, kids, keys[1:]...))
		between = append(between, keys[0])
	}
	if len(top) == 1 {
		return top[0], all
	}
	return putBranch(t, p, top, between[1:]...), all
}

// mustBecome: the widths of a tree's branches, and the lengths of its leaves, are these.
func mustBecome(t *testing.T, p *pager.Pager, root int, x plain, widths [][]int, lengths ...int) {
	t.Helper()
	if x.levels != len(widths)+1 {
		t.Errorf("P10.3: the tree has %d levels, not %d: %v", x.levels, len(widths)+1, x.widths)
		return
	}
	for level, want := range widths {
		if !slices.Equal(x.widths[level], want) {
			t.Errorf("P10.3: on level %d the branches have %v kids, not %v", level, x.widths[level], want)
		}
	}
	if got := leafLengths(t, p, root); len(lengths) > 0 && !slices.Equal(got, lengths) {
		t.Errorf("P10.3: the leaves are %v bytes long, not %v", got, lengths)
	}
}

// leafLengths: how long the leaves of a tree are.
func leafLengths(t *testing.T, p *pager.Pager, no int) []int {
	t.Helper()
	n, e := p.Node(no)
	if e != api.OK {
		t.Fatalf("page %d: code %d", no, e)
	}
	b, ok := n.(*node.Branch)
	if !ok {
		return []int{n.Len()}
	}
	var out []int
	for _, kid := range b.Kids {
		out = append(out, leafLengths(t, p, kid)...)
	}
	return out
}

// TestLeavesThatFitAreJoined: a delete leaves two leaves beside one another that fit into one, at each end and between.
func TestLeavesThatFitAreJoined(t *testing.T) { // P10.3
	for _, c := range []struct {
		what    string
		lengths []int
		at      int
		then    []int
	}{ // the first item of a leaf has 209 bytes there, if it isn't the only one
		{"left end", []int{600, 600, 600, 600}, 0, []int{988, 600, 600}},
		{"right end", []int{600, 600, 600, 600}, 3, []int{600, 600, 988}},
		{"between, with the left one", []int{600, 600, 600, 600}, 1, []int{988, 600, 600}},
		{"between, with the right one", []int{1000, 600, 500, 1000}, 1, []int{1000, 888, 1000}},
		{"between, with both", []int{1000, 20, 1010, 20, 1000}, 2, []int{1000, 835, 1000}},
		{"with both, and nothing else", []int{20, 1010, 20}, 1, []int{835}},
		{"none", []int{900, 900, 900}, 1, []int{900, 691, 900}},
		{"none at the left end", []int{900, 900, 900}, 0, []int{691, 900, 900}},
		{"none at the right end", []int{900, 900, 900}, 2, []int{900, 900, 691}},
		{"two that are just as long as may be", []int{628, 600, 900}, 1, []int{1016, 900}},
		{"two that are a byte longer", []int{629, 600, 900}, 1, []int{629, 391, 900}},
		{"two to the right that are just as long as may be", []int{900, 600, 628}, 1, []int{900, 1016}},
		{"two to the right that are a byte longer", []int{900, 600, 629}, 1, []int{900, 391, 629}},
		{"two alone", []int{600, 600}, 0, []int{988}},
		{"two alone, the right one", []int{600, 600}, 1, []int{988}},
		{"a leaf that is empty then, left end", []int{20, 1000, 1000}, 0, []int{1000, 1000}},
		{"a leaf that is empty then, right end", []int{1000, 1000, 20}, 2, []int{1000, 1000}},
		{"a leaf that is empty then, between", []int{1000, 20, 1000}, 1, []int{1000, 1000}},
		{"a leaf that is empty then, of two", []int{20, 1000}, 0, []int{1000}},
		{"a leaf that is empty then, the right one of two", []int{1000, 20}, 1, []int{1000}},
	} {
		d := disk.New(200)
		p := pager.New(d, makePool(t, 200, 2), 1, 0)
		root, all := build(t, p, 6, 200, shape{c.lengths})
		mustBeWhole(t, p, root, all)
		p = flushed(t, d, p, 2)
		key := prefixOf(0, c.at, 6) + "00"
		root = mustDelete(t, p, root, key)
		x := mustBeWhole(t, p, root, less(all, key))
		var widths [][]int
		if len(c.then) > 1 {
			widths = [][]int{{len(c.then)}}
		}
		mustBecome(t, p, root, x, widths, c.then...)
		if t.Failed() {
			t.Fatalf("so it was with: %s", c.what)
		}
	}
}

// TestAShorterValueJoinsLeaves: a put may leave two leaves that fit into one, too.
func TestAShorterValueJoinsLeaves(t *testing.T) { // P10.1, P10.3
	for at, then := range [][]int{{1001, 600}, {1001, 600}, {600, 1001}} {
		p := makePager(t, 60)
		root, all := build(t, p, 6, 200, shape{row(3, 600)})
		key := prefixOf(0, at, 6) + "00"
		for _, n := range []int{200, 201, 5000} { // in a leaf it needs 194 bytes more than in a chain
			next := mustPut(t, p, root, key, long(n), true)
			x := mustBeWhole(t, p, next, more(all, key, long(n)))
			if want := 3 - min(n-200, 1); x.leaves != want {
				t.Errorf("P10.3: with a value of %d bytes there are %d leaves, not %d", n, x.leaves, want)
			}
			root = mustPut(t, p, next, key, long(200), true)
		}
		p = makePager(t, 60)
		root, all = build(t, p, 6, 200, shape{row(3, 600)})
		root = mustPut(t, p, root, key, "four", true)
		x := mustBeWhole(t, p, root, more(all, key, "four"))
		mustBecome(t, p, root, x, [][]int{{2}}, then...)
	}
}

// TestBranchesThatFitAreJoined: a delete leaves two branches beside one another that fit into one, at each end and between. Each key between kids needs 105 bytes, so that a branch has room for nine.
func TestBranchesThatFitAreJoined(t *testing.T) { // P10.3
	for _, c := range []struct {
		what       string
		kids       []int
		at         int
		then, less []int // how many kids the branches have then, and, if that is other, where the leaves at the ends of branches fit into one, too
	}{
		{"left end", []int{5, 6, 5, 6}, 0, []int{10, 5, 6}, []int{9, 5, 6}},
		{"right end", []int{6, 5, 6, 5}, 3, []int{6, 5, 10}, []int{6, 5, 9}},
		{"between, with the left one", []int{6, 5, 6, 6}, 1, []int{10, 6, 6}, []int{9, 6, 6}},
		{"between, with the right one", []int{10, 5, 6, 10}, 1, []int{10, 10, 10}, []int{10, 9, 10}},
		{"none", []int{8, 8, 8}, 1, []int{8, 7, 8}, nil},
		{"none at the left end", []int{8, 8, 8}, 0, []int{7, 8, 8}, nil},
		{"none at the right end", []int{8, 8, 8}, 2, []int{8, 8, 7}, nil},
		{"two alone", []int{5, 6}, 0, []int{10}, []int{9}},
		{"two alone, the right one", []int{6, 5}, 1, []int{10}, []int{9}},
		{"with one kid to the left", []int{1, 10, 10}, 1, []int{10, 10}, []int{9, 10}},
		{"with one kid to the right", []int{10, 10, 1}, 1, []int{10, 10}, []int{10, 9}},
		{"with one kid on each side", []int{1, 10, 1}, 1, []int{10, 1}, []int{9}},
	} {
		for _, ends := range []int{609, 306} {
			var s shape
			for _, kids := range c.kids {
				s = append(s, branchWith(kids, ends))
			}
			d := disk.New(400)
			p := pager.New(d, makePool(t, 400, 2), 1, 0)
			root, all := build(t, p, 100, 200, s)
			mustBeWhole(t, p, root, all)
			p = flushed(t, d, p, 2)
			key := prefixOf(c.at, 2, 100) + "00"
			root = mustDelete(t, p, root, key)
			x := mustBeWhole(t, p, root, less(all, key))
			then := c.then
			if ends == 306 && c.less != nil {
				then = c.less
			}
			widths := [][]int{then}
			if len(then) > 1 {
				widths = [][]int{{len(then)}, then}
			}
			mustBecome(t, p, root, x, widths)
			if t.Failed() {
				t.Fatalf("so it was with: %s, leaves of %d bytes at the ends", c.what, ends)
			}
		}
	}
}

// branchWith: leaves of which those at the ends are so long, and no two fit into one; the third one does with one beside it, if its first item goes.
func branchWith(kids, ends int) []int {
	if ends == 609 || kids == 1 {
		return row(kids, ends)
	}
	out := row(kids, 609)
	out[2] = 506
	out[0], out[1] = ends, 715
	out[kids-2], out[kids-1] = 715, ends
	return out
}

// TestBranchesToTheirLastByte: two branches fit into one, if that has 1016 bytes with the key between them, and don't with one byte more.
func TestBranchesToTheirLastByte(t *testing.T) { // P10.2, P10.3
	for extra := range 2 {
		for at := range 10 {
			var kids [2][]int
			var keys [2][]string
			p := makePager(t, 60)
			all := items{}
			length, between := 7, ""
			for i := range 11 {
				side := min(i/5, 1) // five kids to the left, six to the right
				prefix := prefixOf(side, i, 100)
				l := sized(prefix, 609, 200)
				all = union(all, l)
				kids[side] = append(kids[side], putLeaf(t, p, l))
				// The beginning of a leaf's keys may stand ahead of it. Ten of 96 bytes, and 5 each, are one byte too much.
				cut := 96
				if i == at+1 {
					cut = 95 + extra
				}
				switch {
				case i == 5:
					between = prefix[:cut]
				case i > 0:
					keys[side] = append(keys[side], prefix[:cut])
				}
				if i > 0 {
					length += 5 + cut
				}
			}
			if length != 1016+extra {
				t.Fatalf("the test's own numbers: %d bytes, not %d", length, 1016+extra)
			}
			root := putBranch(t, p, []int{putBranch(t, p, kids[0], keys[0]...), putBranch(t, p, kids[1], keys[1]...)}, between)
			x := mustHave(t, p, root, all)
			if x.tight != (extra == 1) {
				t.Errorf("P10.2: branches of %d bytes together, and tight is %v", length, x.tight)
			}
			mustTight(t, p, root, extra == 1)
		}
	}
}

// TestABranchGoesWithItsLastKid: a delete empties the only leaf below a branch.
func TestABranchGoesWithItsLastKid(t *testing.T) { // P10.3
	for _, c := range []struct {
		kids []int
		at   int
		then [][]int
	}{
		{[]int{1, 10}, 0, [][]int{{10}}},
		{[]int{10, 1}, 1, [][]int{{10}}},
		{[]int{10, 1, 10}, 1, [][]int{{2}, {10, 10}}},
		{[]int{1, 10, 10}, 0, [][]int{{2}, {10, 10}}},
		{[]int{10, 10, 1}, 2, [][]int{{2}, {10, 10}}},
	} {
		var s shape
		for _, kids := range c.kids {
			s = append(s, row(kids, 609))
		}
		s[c.at] = []int{150}
		p := makePager(t, 100)
		root, all := build(t, p, 100, 200, s)
		mustBeWhole(t, p, root, all)
		key := prefixOf(c.at, 0, 100) + "00"
		root = mustDelete(t, p, root, key)
		x := mustBeWhole(t, p, root, less(all, key))
		mustBecome(t, p, root, x, c.then)
	}
}

// TestSplits: a put splits a leaf, a branch, the root.
func TestSplits(t *testing.T) { // P10.1, P10.3
	for _, c := range []struct {
		what   string
		shape  shape
		branch int
		then   [][]int
	}{
		{"a leaf", shape{row(5, 912)}, 0, [][]int{{6}}},
		{"the root", shape{row(10, 912)}, 0, [][]int{{2}, {5, 6}}},
		{"the left branch", shape{row(10, 912), row(10, 912)}, 0, [][]int{{3}, {5, 6, 10}}},
		{"the right branch", shape{row(10, 912), row(10, 912)}, 1, [][]int{{3}, {10, 5, 6}}},
		{"the branch between", shape{row(10, 912), row(10, 912), row(10, 912)}, 1, [][]int{{4}, {10, 5, 6, 10}}},
		{"a branch and the root", slices.Repeat(shape{row(10, 912)}, 10), 4, [][]int{{2}, {5, 6}, {10, 10, 10, 10, 5, 6, 10, 10, 10, 10, 10}}},
		{"a branch, whose halves fit into those beside them", shape{row(4, 912), row(10, 912), row(4, 912)}, 1, [][]int{{2}, {9, 10}}},
	} {
		for leaf := range c.shape[c.branch] {
			p := makePager(t, 300)
			root, all := build(t, p, 100, 200, c.shape)
			mustBeWhole(t, p, root, all)
			key := prefixOf(c.branch, leaf, 100) + "01"
			key = key[:99] + "\xff"
			root = mustPut(t, p, root, key, long(200), false)
			x := mustBeWhole(t, p, root, more(all, key, long(200)))
			mustBecome(t, p, root, x, c.then)
			if t.Failed() {
				t.Fatalf("so it was with: %s, leaf %d", c.what, leaf)
			}
		}
	}
}

// TestAPutMayMakeLess: the halves of a leaf fit into those beside them, so that there is one leaf less; that may leave branches that fit into one.
func TestAPutMayMakeLess(t *testing.T) { // P10.1, P10.3
	pattern := []int{306, 921, 306, 912, 609}
	for _, c := range []struct {
		shape  shape
		branch int
		then   [][]int
	}{
		{shape{pattern}, 0, [][]int{{4}}},
		{shape{pattern[:3]}, 0, [][]int{{2}}},
		{shape{pattern, row(6, 609)}, 0, [][]int{{10}}},
		{shape{row(6, 609), pattern}, 1, [][]int{{10}}},
		{shape{row(10, 609), pattern, row(6, 609)}, 1, [][]int{{2}, {10, 10}}},
		{shape{row(10, 609), pattern, row(10, 609)}, 1, [][]int{{3}, {10, 4, 10}}},
	} {
		p := makePager(t, 100)
		root, all := build(t, p, 100, 50, c.shape)
		mustBeWhole(t, p, root, all)
		key := prefixOf(c.branch, 1, 100) + "02"
		key = key[:99] + "\xff"
		root = mustPut(t, p, root, key, long(50), false)
		x := mustBeWhole(t, p, root, more(all, key, long(50)))
		mustBecome(t, p, root, x, c.then)
	}
}

// TestNotTight: trees that are no tight ones are told so, and are read and written all the same.
func TestNotTight(t *testing.T) { // P10.1, P10.2
	p := makePager(t, 400)
	empty := putLeaf(t, p, items{})
	mustTight(t, p, empty, false)
	full, fullItems := build(t, p, 6, 200, shape{row(3, 600)})
	one := putLeaf(t, p, items{"k": "v"})
	for _, c := range []struct {
		what string
		root int
		all  items
	}{
		{"a root with one leaf", putBranch(t, p, []int{one}), items{"k": "v"}},
		{"a root with one branch", putBranch(t, p, []int{full}), fullItems},
		{"a root with one kid over such a branch", putBranch(t, p, []int{putBranch(t, p, []int{putLeaf(t, p, items{"k": "v"})})}), items{"k": "v"}},
	} {
		if x := plainTree(t, p, c.root); x.tight {
			t.Fatalf("the test's own tree, %s, is tight", c.what)
		}
		mustTight(t, p, c.root, false)
		for key, val := range c.all {
			mustGet(t, p, c.root, key, val)
		}
		root := mustPut(t, p, c.root, "more", "v", false)
		if x := plainTree(t, p, root); x.items["more"] != "v" || len(x.items) != len(c.all)+1 {
			t.Errorf("P10.1: %s: an item more makes %d of %d", c.what, len(x.items), len(c.all))
		}
	}
	for what, s := range map[string]shape{
		"two leaves that fit":                            {{600, 400, 900}},
		"two leaves that just fit":                       {{419, 600, 900}},
		"the last two that fit":                          {{900, 900, 106}},
		"two branches that fit":                          {row(4, 609), row(3, 609), row(10, 609)},
		"the last two branches":                          {row(10, 609), row(5, 609), row(5, 609)},
		"two leaves that fit, in the last branch":        {row(10, 609), {609, 609, 609, 350, 306}},
		"two leaves that fit, in the branch amid others": {row(10, 609), {609, 612, 407, 609, 609}, row(10, 609)},
	} {
		p := makePager(t, 100)
		root, all := build(t, p, 100, 200, s)
		if x := mustHave(t, p, root, all); x.tight {
			t.Errorf("P10.2: tight with %s", what)
		}
	}
}

// TestNotTightIsParted: of such trees, too, what is dropped is all that isn't needed any more.
func TestNotTightIsParted(t *testing.T) { // P10.1, P10.3
	over := func(p *pager.Pager, no int) int { return putBranch(t, p, []int{no}) }
	for what, build := range map[string]func(p *pager.Pager) int{
		"side by side over one kid each": func(p *pager.Pager) int {
			left := over(p, over(p, putLeaf(t, p, items{"a": "x"})))
			return putBranch(t, p, []int{left, over(p, over(p, putLeaf(t, p, items{"n": "x", "o": "x"})))}, "m")
		},
		"with an empty leaf": func(p *pager.Pager) int {
			left := putLeaf(t, p, items{})
			return putBranch(t, p, []int{left, putLeaf(t, p, items{"a": "x", "b": "x"}), putLeaf(t, p, items{"n": "x"})}, "a", "m")
		},
		"over one kid each, far down": func(p *pager.Pager) int {
			return over(p, over(p, over(p, putLeaf(t, p, items{"a": "x", "n": "x", "o": "x"}))))
		},
		"with leaves that fit": func(p *pager.Pager) int {
			left := putBranch(t, p, []int{putLeaf(t, p, items{"a": "x"}), putLeaf(t, p, items{"b": "x"})}, "b")
			return putBranch(t, p, []int{left, putBranch(t, p, []int{putLeaf(t, p, items{"n": "x"}), putLeaf(t, p, items{"o": "x"})}, "o")}, "m")
		},
	} {
		for _, key := range []string{"a", "b", "n", "o", "z"} {
			p := makePager(t, 60)
			root := build(p)
			all := plainTree(t, p, root).items
			if _, ok := all[key]; ok {
				next := mustDelete(t, p, root, key)
				x := plainTree(t, p, next)
				mustPart(t, p, x.pages)
				if !maps.Equal(x.items, less(all, key)) {
					t.Errorf("P10.1: %s: without %s the tree has %v", what, key, x.items)
				}
				p = makePager(t, 60)
				root = build(p)
			}
			next := mustPut(t, p, root, key, long(200), all[key] != "")
			x := plainTree(t, p, next)
			mustPart(t, p, x.pages)
			if !maps.Equal(x.items, more(all, key, long(200))) {
				t.Errorf("P10.1: %s: with %s the tree has %v", what, key, x.items)
			}
		}
	}
}

// TestJustTight: one byte more than what isn't tight.
func TestJustTight(t *testing.T) { // P10.2
	for _, s := range []shape{{{420, 600, 900}}, {{600, 420, 900}}, {row(5, 609), row(6, 609)}, {row(1, 609), row(10, 609)}, {row(10, 609), {150}}} {
		p := makePager(t, 100)
		root, all := build(t, p, 100, 200, s)
		mustBeWhole(t, p, root, all)
	}
}

// TestEmptyLeaves: leaves without items, of which there are none in a tight tree, are as nothing.
func TestEmptyLeaves(t *testing.T) { // P10.1, P10.2
	p := makePager(t, 60)
	kids := []int{putLeaf(t, p, items{}), putLeaf(t, p, items{"c": "x"}), putLeaf(t, p, items{})}
	root := putBranch(t, p, kids, "b", "d")
	mustTight(t, p, root, false)
	mustGet(t, p, root, "c", "x")
	for _, key := range []string{"a", "b", "d", "e"} {
		mustNotGet(t, p, root, key, api.NotFound)
		mustNotDelete(t, p, root, key, api.NotFound)
	}
	if pages, e := tree.Pages(p, root); e != api.OK || !slices.Equal(pages, []int{2, 3, 4, 5}) {
		t.Errorf("P10.2: Pages: %v and code %d", pages, e)
	}
	root = mustDelete(t, p, root, "c")
	if x := plainTree(t, p, root); len(x.items) != 0 {
		t.Errorf("P10.1: the last item is gone, and there are %v", x.items)
	}
}

// TestDeepTrees: each kid is the only one of its branch, down through as many pages as a disk has, but one for a value's chain.
func TestDeepTrees(t *testing.T) { // P10.1, P10.2
	const levels = 2045
	p := makePager(t, 2048)
	no := putLeaf(t, p, items{"k": "v"})
	for range levels - 1 {
		no = putBranch(t, p, []int{no})
	}
	mustGet(t, p, no, "k", "v")
	mustNotGet(t, p, no, "j", api.NotFound)
	mustNotDelete(t, p, no, "j", api.NotFound)
	mustTight(t, p, no, false)
	if pages, e := tree.Pages(p, no); e != api.OK || len(pages) != levels {
		t.Errorf("P10.2: Pages: %d and code %d, not %d", len(pages), e, levels)
	}
	root := mustPut(t, p, no, "l", "w", false)
	mustBeWhole(t, p, root, items{"k": "v", "l": "w"})
}
