package roots_test

import (
	"bytes"
	"slices"
	"testing"

	"cambium/api"
	"cambium/roots"
)

// other: what lists are written over with.
func other() api.Root {
	return api.Root{Name: "other", Page: 1234, Count: 4321}
}

// spoil: a list is written over, and what would be put behind it, too.
func spoil(list []api.Root) {
	list = list[:cap(list)]
	for i := range list {
		list[i] = other()
	}
}

// spoilBytes: bytes are written over, and what would be put behind them, too.
func spoilBytes(b []byte) {
	b = b[:cap(b)]
	for i := range b {
		b[i] = 0x5A
	}
}

// handIn: a list is handed to a call; it must leave it, and the room behind it, as they are; then they are written over.
func handIn(t *testing.T, what string, list []api.Root, call func(list []api.Root)) {
	t.Helper()
	whole := slices.Clone(list)
	for range 20 {
		whole = append(whole, other())
	}
	before := slices.Clone(whole)
	call(whole[:len(list)])
	if !slices.Equal(whole, before) {
		t.Fatalf("rule 3: %s changed what was handed in", what)
	}
	clear(whole[:cap(whole)])
}

func TestListsHandedIn(t *testing.T) { // P12.1, P12.2
	for _, list := range goodLists() {
		names := append(namesOf(list), "-new", "new", "zznew", "")
		for _, name := range names {
			r := api.Root{Name: name, Page: 55, Count: 66}
			wantWith, wantCode := plainWith(list, r)
			var says []byte
			var found api.Root
			var with, without []api.Root
			var code api.Code
			handIn(t, "May", list, func(list []api.Root) { roots.May(list) })
			handIn(t, "Pay", list, func(list []api.Root) { says = roots.Pay(list) })
			handIn(t, "Find", list, func(list []api.Root) { found, _ = roots.Find(list, name) })
			handIn(t, "With", list, func(list []api.Root) { with, code = roots.With(list, r) })
			handIn(t, "Without", list, func(list []api.Root) { without = roots.Without(list, name) })
			if want, _ := roots.Find(list, name); found != want {
				t.Errorf("rule 3: Find(%v, %q) told %v", list, name, found)
			}
			if !bytes.Equal(says, saysOf(list)) || code != wantCode || !slices.Equal(with, wantWith) || !slices.Equal(without, plainWithout(list, name)) {
				t.Errorf("rule 3: what was told of %v and %q is another thing behind the call", list, name)
			}
		}
	}
}

func TestListsAnswered(t *testing.T) { // P12.2
	for _, list := range goodLists() {
		was := slices.Clone(list)
		for _, name := range append(namesOf(list), "-new", "new", "zznew", "") {
			r := api.Root{Name: name, Page: 55, Count: 66}
			wantWith, _ := plainWith(was, r)
			wantWithout := plainWithout(was, name)
			for range 2 {
				with, _ := roots.With(list, r)
				again, _ := roots.With(list, r)
				without, once := roots.Without(list, name), roots.Without(list, name)
				spoil(with)
				spoil(without)
				if !slices.Equal(list, was) || !slices.Equal(again, wantWith) || !slices.Equal(once, wantWithout) {
					t.Fatalf("rule 3: what was told of %v and %q shares memory", was, name)
				}
			}
		}
	}
}

func TestBytesHandedIn(t *testing.T) { // P12.1
	for _, list := range goodLists() {
		whole := append(filled(saysOf(list)), bytes.Repeat([]byte{0xC3}, 100)...)
		before := bytes.Clone(whole)
		got, e := roots.FromPay(whole[:1016])
		if !bytes.Equal(whole, before) {
			t.Fatal("rule 3: FromPay changed what was handed in")
		}
		spoilBytes(whole)
		if e != api.OK || !slices.Equal(got, list) {
			t.Errorf("rule 3: %v became %v behind the call", list, got)
		}
		wrong := append(filled(saysOf(list)), 1)
		was := bytes.Clone(wrong)
		roots.FromPay(wrong)
		wrong[1015] = 1
		roots.FromPay(wrong[:1016])
		wrong[1015] = 0
		if !bytes.Equal(wrong, was) {
			t.Error("rule 3: FromPay changed what it refused")
		}
	}
}

func TestBytesAndRootsAnswered(t *testing.T) { // P12.1, P12.3
	for _, list := range goodLists() {
		was := slices.Clone(list)
		b := filled(saysOf(list))
		for range 2 {
			one, two := roots.Pay(list), roots.Pay(list)
			spoilBytes(one)
			if !bytes.Equal(two, saysOf(was)) || !slices.Equal(list, was) {
				t.Fatalf("rule 3: what Pay(%v) told shares memory", was)
			}
			first, e := roots.FromPay(b)
			second, f := roots.FromPay(b)
			spoil(first)
			if e != api.OK || f != api.OK || !slices.Equal(second, was) || !bytes.Equal(b, filled(saysOf(was))) {
				t.Fatalf("rule 3: what FromPay told of %v shares memory", was)
			}
		}
	}
}

// TestAnswersHangOnArgumentsAlone: what was asked before changes nothing.
func TestAnswersHangOnArgumentsAlone(t *testing.T) { // rule 5
	list := many(5)
	page := filled(saysOf(list))
	for range 3 {
		mustWith(t, list, root("q"), append(slices.Clone(list), root("q")), api.OK)
		mustWith(t, list, root("Q"), nil, api.Arg)
		mustWith(t, many(12), root("q"), nil, api.Limit)
		mustWithout(t, list, list[0].Name, list[1:])
		mustFind(t, list, list[4].Name, list[4], true)
		mustFind(t, list, "q", api.Root{}, false)
		mustMay(t, list, true)
		mustMay(t, many(13), false)
		mustFrom(t, "five", page)
		mustBeMalformed(t, "less", page[:1015])
	}
}
