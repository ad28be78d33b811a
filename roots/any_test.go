package roots_test

import (
	"fmt"
	"math/rand/v2"
	"testing"

	"cambium/api"
	"cambium/roots"
)

// anyOf: one of them.
func anyOf[T any](r *rand.Rand, list ...T) T {
	return list[r.IntN(len(list))]
}

// anyName: a name, mostly one that may be, and mostly one of a few.
func anyName(r *rand.Rand) string {
	alphabet := anyOf(r, "ab", "ab", "-az", "abcdefgh", letters)
	n := anyOf(r, 1, 1, 2, 2, 3, 5, 23, 24)
	if r.IntN(10) == 0 {
		alphabet, n = "abA \x00\xff.{`,", anyOf(r, 0, 1, 2, 24, 25)
	}
	out := make([]byte, n)
	for i := range out {
		out[i] = alphabet[r.IntN(len(alphabet))]
	}
	return string(out)
}

// anyRoot: a root, mostly one that may be.
func anyRoot(r *rand.Rand) api.Root {
	out := api.Root{Name: anyName(r)}
	switch r.IntN(12) {
	case 0:
		out.Page, out.Count = anyOf(r, -1, 0, 1, 2, 1<<31-1, 1<<31, 1<<32+2), anyOf(r, -1, 0, 1, 1<<31-1, 1<<31)
	case 1, 2:
	default:
		out.Page, out.Count = 2+r.IntN(1<<31-2), 1+r.IntN(1<<31-1)
	}
	return out
}

// TestAnyScriptOfRoots: roots that come, change and go, held against the chapter's words done apart.
func TestAnyScriptOfRoots(t *testing.T) { // P12.1 to P12.3
	for seed := range uint64(60) {
		r := rand.New(rand.NewPCG(seed, 12))
		var list []api.Root
		for range 300 {
			one := anyRoot(r)
			want, code := plainWith(list, one)
			mustWith(t, list, one, want, code)
			name := anyOf(r, append(namesOf(list), anyName(r), "")...)
			mustWithout(t, list, name, plainWithout(list, name))
			var found api.Root
			for _, x := range list {
				if x.Name == name {
					found = x
				}
			}
			mustFind(t, list, name, found, found != api.Root{})
			if code == api.OK {
				list, _ = roots.With(list, one)
			}
			if r.IntN(5) == 0 {
				list = roots.Without(list, name)
			}
			mustMay(t, list, true)
			mustFrom(t, "roots", filled(roots.Pay(list)))
			if t.Failed() {
				t.Fatalf("seed %d", seed)
			}
		}
	}
}

// TestAnyList: lists that may be roots or not.
func TestAnyList(t *testing.T) { // P12.1
	r := rand.New(rand.NewPCG(1, 12))
	may := 0
	for range 20000 {
		var list []api.Root
		for range r.IntN(4) {
			list = append(list, anyRoot(r))
		}
		if plainMay(list) {
			may++
		}
		mustMay(t, list, plainMay(list))
		mustFrom(t, fmt.Sprintf("%v", list), filled(saysOf(list)))
	}
	if may < 5000 || may > 15000 {
		t.Errorf("%d of 20000 lists are roots: too few of one kind", may)
	}
}

// TestAnyPage: pages of which some bytes are others, or lie elsewhere.
func TestAnyPage(t *testing.T) { // P12.1
	r := rand.New(rand.NewPCG(2, 12))
	for range 20000 {
		list := anyOf(r, goodLists()...)
		b := filled(saysOf(list))
		for range 1 + r.IntN(3) {
			at := r.IntN(min(len(saysOf(list))+5, 1016))
			switch r.IntN(3) {
			case 0:
				b[at] = byte(r.IntN(256))
			case 1:
				b[at] = anyOf[byte](r, 0, 1, 2, 12, 13, 24, 25, 'a', 'z', '-', 0x7F, 0x80, 0xFF)
			case 2:
				n := copy(b[at:1015], b[at+1:])
				b[at+n] = 0
			}
		}
		mustFrom(t, fmt.Sprintf("%v, with others: % X", list, b[:len(saysOf(list))]), b)
	}
}
