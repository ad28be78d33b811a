package roots_test

import (
	"slices"
	"strings"
	"testing"

	"cambium/api"
	"cambium/roots"
)

func TestFind(t *testing.T) { // P12.2
	for _, list := range goodLists() {
		for _, r := range list {
			mustFind(t, list, r.Name, r, true)
			for _, name := range []string{r.Name + "~", r.Name + "\x00", r.Name[:len(r.Name)-1] + "~", strings.ToUpper(r.Name) + "A", " " + r.Name} {
				mustFind(t, list, name, api.Root{}, false)
			}
		}
		for _, name := range []string{"", "nobody", "A", "\xff", "é", strings.Repeat("a", 25), strings.Repeat("q", 300)} {
			mustFind(t, list, name, api.Root{}, false)
		}
	}
	list := named("a", "aa", "ab", "b")
	mustFind(t, list, "aa", list[1], true)
	mustFind(t, list, "", api.Root{}, false)
	mustFind(t, list, "aaa", api.Root{}, false)
	mustFind(t, list, "c", api.Root{}, false)
	// One without items is told as one.
	mustFind(t, []api.Root{{Name: "none"}}, "none", api.Root{Name: "none"}, true)
	mustFind(t, nil, "a", api.Root{}, false)
}

func TestWithANewOne(t *testing.T) { // P12.2
	list := named("b", "d", "f")
	b, d, f := list[0], list[1], list[2]
	for _, c := range []struct {
		name string
		want func(r api.Root) []api.Root
	}{
		{"a", func(r api.Root) []api.Root { return []api.Root{r, b, d, f} }},
		{"-", func(r api.Root) []api.Root { return []api.Root{r, b, d, f} }},
		{"c", func(r api.Root) []api.Root { return []api.Root{b, r, d, f} }},
		{"b-", func(r api.Root) []api.Root { return []api.Root{b, r, d, f} }},
		{"bz", func(r api.Root) []api.Root { return []api.Root{b, r, d, f} }},
		{"e", func(r api.Root) []api.Root { return []api.Root{b, d, r, f} }},
		{"ez", func(r api.Root) []api.Root { return []api.Root{b, d, r, f} }},
		{"g", func(r api.Root) []api.Root { return []api.Root{b, d, f, r} }},
		{"f-", func(r api.Root) []api.Root { return []api.Root{b, d, f, r} }},
	} {
		for _, r := range []api.Root{root(c.name), {Name: c.name}} {
			mustWith(t, list, r, c.want(r), api.OK)
			mustWith(t, nil, r, []api.Root{r}, api.OK)
		}
	}
}

func TestWithOneThatIsThere(t *testing.T) { // P12.2
	for _, list := range goodLists() {
		for i, was := range list {
			for _, r := range []api.Root{was, {Name: was.Name}, {Name: was.Name, Page: 2, Count: 1}, {Name: was.Name, Page: 1<<31 - 1, Count: 1<<31 - 1}} {
				want := slices.Clone(list)
				want[i] = r
				mustWith(t, list, r, want, api.OK)
			}
		}
	}
}

func TestWithOneThatMayNotBe(t *testing.T) { // P12.2
	for _, list := range [][]api.Root{nil, named("a"), named("a", "b"), many(11), many(12)} {
		for _, name := range []string{"", "A", "a1", "a a", "a\x00", "é", "\xff", "`", "{", ",", ".", strings.Repeat("a", 25)} {
			mustWith(t, list, root(name), nil, api.Arg)
		}
		for _, name := range []string{"a", "b", "new"} {
			for _, r := range []api.Root{
				{Name: name, Page: 1, Count: 1}, {Name: name, Page: 2}, {Name: name, Count: 1},
				{Name: name, Page: -1, Count: 1}, {Name: name, Page: 2, Count: -1},
				{Name: name, Page: 1 << 31, Count: 1}, {Name: name, Page: 1<<32 + 2, Count: 1}, {Name: name, Page: 2, Count: 1 << 31},
			} {
				mustWith(t, list, r, nil, api.Arg)
			}
		}
		mustWith(t, list, api.Root{}, nil, api.Arg)
	}
}

func TestWithAsManyAsThereMayBe(t *testing.T) { // P12.2
	for _, list := range [][]api.Root{many(12), long(12)} {
		for _, name := range []string{"-", "zzz", list[5].Name[:1], list[5].Name[:1] + "-", list[11].Name[:1] + "zzzz"} {
			mustWith(t, list, root(name), nil, api.Limit)
			mustWith(t, list, api.Root{Name: name}, nil, api.Limit)
			mustWith(t, list[:11], root(name), slices.SortedFunc(slices.Values(append(list[:11:11], root(name))), func(x, y api.Root) int { return strings.Compare(x.Name, y.Name) }), api.OK)
		}
		for i := range list {
			r := api.Root{Name: list[i].Name, Page: 77, Count: 78}
			want := slices.Clone(list)
			want[i] = r
			mustWith(t, list, r, want, api.OK)
		}
		// Behind one that goes there is room again.
		fewer := roots.Without(list, list[4].Name)
		mustWith(t, fewer, list[4], list, api.OK)
	}
}

func TestWithout(t *testing.T) { // P12.2
	for _, list := range goodLists() {
		for i, r := range list {
			mustWithout(t, list, r.Name, slices.Delete(slices.Clone(list), i, i+1))
		}
		for _, name := range []string{"", "nobody", "A", "\xff", "é", strings.Repeat("a", 25)} {
			mustWithout(t, list, name, list)
		}
	}
	list := named("a", "aa", "ab", "b")
	mustWithout(t, list, "a", list[1:])
	mustWithout(t, list, "b", list[:3])
	mustWithout(t, list, "aaa", list)
	mustWithout(t, nil, "a", nil)
	mustWithout(t, list[:1], "a", nil)
}

// TestListsThatArentRoots: nothing panics, and nothing handed in changes, whatever is handed in.
func TestListsThatArentRoots(t *testing.T) { // rule 6
	wrong := [][]api.Root{
		make([]api.Root, 1), make([]api.Root, 13), make([]api.Root, 300),
		named("b", "a"), named("a", "a"), named("A", "a", "\xff"), named("", "a"), many(13), many(20),
		{{Name: "a", Page: -1, Count: -1}}, {{Name: strings.Repeat("a", 1000)}},
	}
	for _, list := range wrong {
		was := slices.Clone(list)
		for _, name := range []string{"", "a", "b", "zz", "\xff"} {
			roots.Find(list, name)
			roots.Without(list, name)
			roots.With(list, root(name))
		}
		mustMay(t, list, false)
		if !slices.Equal(list, was) {
			t.Errorf("rule 3: %v became %v", was, list)
		}
	}
}
