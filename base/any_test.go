package base_test

import (
	"fmt"
	"math/rand/v2"
	"strings"
	"testing"

	"cambium/api"
	"cambium/base"
)

// held is a view that is being read, and what it is to tell.
type held struct {
	view *base.View
	want trees
}

// script is a random row of transactions, of a base and of one by the chapter's words.
type script struct {
	r     *rand.Rand
	b     *pair
	views []held
	ends  map[string]int // how many transactions ended in which way
}

// horizon: one that isn't above the versions that are being read; often just the greatest of them.
func (s *script) horizon() uint64 {
	out := s.b.plain.meta.Gen + uint64(s.r.IntN(3))
	for _, v := range s.views {
		out = min(out, v.view.Version())
	}
	if s.r.IntN(4) == 0 {
		out -= min(out, uint64(s.r.IntN(4)))
	}
	return out
}

// name: one of few names, of which some may not be, and which are more than there may be.
func (s *script) name() string {
	if s.r.IntN(30) == 0 {
		return []string{"", "Bad", "none", strings.Repeat("x", 25)}[s.r.IntN(4)]
	}
	return string(rune('a' + min(s.r.IntN(14), s.r.IntN(14))))
}

// key: one of few keys, of all lengths that may be, and of some that may not.
func (s *script) key() string {
	i := s.r.IntN(25)
	if s.r.IntN(40) == 0 {
		return strings.Repeat("k", 101*s.r.IntN(2))
	}
	return keyOf(i) + strings.Repeat("-", i*3)
}

// val: a value; now and then a great one, or one that is too great.
func (s *script) val() string {
	switch s.r.IntN(12) {
	case 0:
		return long(s.r.IntN(3500))
	case 1:
		return long(200 + s.r.IntN(2))
	case 2:
		return long(16380 * s.r.IntN(2) * s.r.IntN(2))
	case 3:
		return long(16380 + s.r.IntN(9)*s.r.IntN(2))
	}
	return long(s.r.IntN(150))
}

// do: something is done in a transaction.
func (s *script) do(t *testing.T, x *pairTx) api.Code {
	t.Helper()
	switch n := s.r.IntN(20); {
	case n < 11:
		return x.put(t, s.name(), s.key(), s.val())
	case n < 17:
		return x.delete(t, s.name(), s.key())
	case n < 18:
		return x.drop(t, s.name())
	case n < 19:
		x.trim(t)
	default:
		mustTell(t, "P13.2: a transaction", x.x, x.plain.all)
	}
	return api.OK
}

// step: one transaction, in some way, to some end.
func (s *script) step(t *testing.T) {
	t.Helper()
	if s.r.IntN(4) == 0 && len(s.views) < 3 {
		s.views = append(s.views, held{s.b.base.View(), s.b.plain.all.copied()})
	} else if s.r.IntN(3) == 0 && len(s.views) > 0 {
		s.views = s.views[1:]
	}
	x := s.b.begin(s.horizon())
	for range s.r.IntN(15) {
		if s.do(t, x) == api.Full {
			mustBeState(t, "P13.3: a transaction that told Full", x.x, s.name(), s.key())
			s.ends["full"]++
			return
		}
	}
	switch s.r.IntN(6) {
	case 0:
		s.abort(x)
	case 1:
		s.powerless(t, x)
	default:
		if e := x.commit(t); e != api.OK {
			s.ends["no room"]++
			return
		}
		s.ends["committed"]++
	}
}

// abort: a transaction is aborted behind some steps, by its own call, or by the beginning of another one, which is left so.
func (s *script) abort(x *pairTx) {
	for range s.r.IntN(4) {
		x.x.Step()
	}
	if s.r.IntN(2) == 0 {
		x.x.Abort()
	} else {
		s.b.base.Begin(s.horizon())
	}
	s.ends["aborted"]++
}

// powerless: the power goes somewhere in a commit, or not, and comes again.
func (s *script) powerless(t *testing.T, x *pairTx) {
	t.Helper()
	d := s.b.disk
	d.Arm(1 + s.r.IntN(12))
	e := x.x.Commit()
	if e == api.Full {
		d.Arm(0)
		s.ends["no room"]++
		return
	}
	waits := d.Waiting()
	keep := bits(s.r.IntN(1<<20)|s.r.IntN(1<<20), len(waits))
	torn := s.r.IntN(len(waits)+2) - 1
	d.Crash(keep, torn)
	s.ends["lost"]++
	if e == api.OK || survives(waits, keep, torn) {
		s.ends["lost"]--
		s.ends["saved"]++
		if code := x.plain.commit(); code != api.OK {
			t.Fatalf("P13.4: Commit: code %d, not %d", e, code)
		}
	}
	s.b.base = mustOpen(t, d)
}

// TestAnyScript: random transactions over disks of all sizes, of which some are aborted, and some lose the power; all is as the chapter's words have it, and what is read of elder versions stays.
func TestAnyScript(t *testing.T) { // P13.1 to P13.6
	ends := map[string]int{}
	for seed := range uint64(18) {
		r := rand.New(rand.NewPCG(13, seed))
		s := &script{r: r, b: makePair(t, []int{12, 30, 90, 200, 400, 2048}[seed%6]), ends: ends}
		for i := range 30 {
			s.step(t)
			what := fmt.Sprintf("seed %d, behind transaction %d", seed, i)
			s.b.mustAgree(t, what)
			for _, v := range s.views {
				mustTell(t, "P13.6: a view: "+what, v.view, v.want)
			}
		}
	}
	for _, way := range []string{"full", "no room", "committed", "aborted", "lost", "saved"} {
		if ends[way] < 5 {
			t.Errorf("the test's own transactions end so: %v", ends)
		}
	}
}
