package base_test

import (
	"fmt"
	"slices"
	"testing"

	"cambium/api"
	"cambium/base"
	"cambium/disk"
)

// isMeta: whether a page is a meta's place.
func isMeta(no int) bool { return no < 2 }

// survives: whether a meta waits, is kept, and isn't torn.
func survives(waits []int, keep []bool, torn int) bool {
	at := slices.IndexFunc(waits, isMeta)
	return at >= 0 && keep[at] && at != torn
}

// eachLoss: does something for each set of as many writes as wait that may survive, with none torn, or one.
func eachLoss(waits int, does func(keep []bool, torn int)) {
	for set := range 1 << waits {
		keep := bits(set, waits)
		for torn := -1; torn < waits; torn++ {
			if torn < 0 || keep[torn] {
				does(keep, torn)
			}
		}
	}
}

// TestPowerInCommit: the power goes in each act of a commit, and each set of the writes that wait survives, at most one of them torn.
func TestPowerInCommit(t *testing.T) { // P13.4, P13.6
	s := makeStory(t)
	metas := 0
	for act := 1; ; act++ {
		d, b, x := s.begin(t)
		d.Arm(act)
		if x.Commit() == api.OK {
			if act < 9 || metas != 2 {
				t.Errorf("a commit of %d acts, behind whose beginning the meta waits in %d", act-1, metas)
			}
			d.Crash(nil, -1)
			mustBe(t, "behind a commit that told OK", mustOpen(t, d), 5, s.will)
			return
		}
		mustBe(t, "a base in whose commit the power went", b, 4, s.was)
		waits := d.Waiting()
		if slices.ContainsFunc(waits, isMeta) {
			metas++
		}
		eachLoss(len(waits), func(keep []bool, torn int) {
			d, _, x := s.begin(t)
			d.Arm(act)
			if e := x.Commit(); e != api.Down {
				t.Fatalf("P13.4: Commit without power: code %d, not Down", e)
			}
			d.Crash(keep, torn)
			what := fmt.Sprintf("the power gone in act %d, %v kept, %d torn", act, keep, torn)
			if survives(waits, keep, torn) {
				mustGoOn(t, what, d, 5, s.will)
			} else {
				mustGoOn(t, what, d, 4, s.was)
			}
		})
	}
}

// TestPowerBetweenSteps: the power goes while nothing is done.
func TestPowerBetweenSteps(t *testing.T) { // P13.6
	s := makeStory(t)
	for steps := range 5 {
		d, _, _ := s.stepped(t, steps)
		waits := d.Waiting()
		eachLoss(len(waits), func(keep []bool, torn int) {
			d, _, _ := s.stepped(t, steps)
			d.Crash(keep, torn)
			what := fmt.Sprintf("the power gone behind %d steps, %v kept, %d torn", steps, keep, torn)
			if survives(waits, keep, torn) || steps == 4 {
				mustGoOn(t, what, d, 5, s.will)
			} else {
				mustGoOn(t, what, d, 4, s.was)
			}
		})
	}
}

// TestDown: a base in a step of which the power went is of no use, also when the power has come again; its views are.
func TestDown(t *testing.T) { // P13.4
	s := makeStory(t)
	for act := 1; act < 10; act++ {
		d, b, x := s.begin(t)
		v := b.View()
		d.Arm(act)
		for e := api.OK; e != api.Down; {
			last := false
			last, e = x.Step()
			if last || e != api.OK && e != api.Down {
				t.Fatalf("P13.4: Step: %v and code %d", last, e)
			}
		}
		for range 2 {
			waits := d.Waiting()
			mustNotStep(t, x, api.Down)
			if e := x.Commit(); e != api.Down {
				t.Errorf("P13.4: Commit of a base of no use: code %d, not Down", e)
			}
			mustTell(t, "P13.2: a view of a base of no use", v, s.was)
			mustTell(t, "P13.2: a view of a base of no use", b.View(), s.was)
			mustTell(t, "P13.2: a transaction in whose commit the power went", x, s.will)
			if !slices.Equal(d.Waiting(), waits) {
				t.Errorf("P13.4: a base of no use wrote something")
			}
			d.Crash(nil, -1)
		}
		x.Abort()
		mustBeState(t, "P13.4: a transaction that was aborted", x, "a", "k")
		y := b.Begin(9)
		mustPut(t, y, "a", "k", "v", true)
		mustNotStep(t, y, api.Down)
		if e := y.Commit(); e != api.Down {
			t.Errorf("P13.4: Commit of another transaction: code %d, not Down", e)
		}
		y.Abort()
		if len(d.Waiting()) != 0 {
			t.Errorf("P13.4: a base of no use wrote something")
		}
		mustGoOn(t, "opened anew", d, 4, s.was)
	}
}

// TestPowerInAbort: the power goes in an act of an Abort behind the third step: opened anew the disk is at the version that was, or at the one whose meta was being written.
func TestPowerInAbort(t *testing.T) { // P13.4, P13.6
	s := makeStory(t)
	for _, l := range leaves {
		for act := 1; act < 4; act++ {
			d, b, x := s.stepped(t, 3)
			d.Arm(act)
			l.does(b, x)
			waits := d.Waiting()
			if d.Down() != (act < 3) {
				t.Fatalf("P13.4: %s has other acts than a write and a sync", l.what)
			}
			mustBeState(t, "P13.4: behind "+l.what, x, "a", "k")
			mustBe(t, "behind "+l.what, b, 4, s.was)
			eachLoss(len(waits), func(keep []bool, torn int) {
				d, b, x := s.stepped(t, 3)
				d.Arm(act)
				l.does(b, x)
				d.Crash(keep, torn)
				want, version := s.was, uint64(4)
				if act < 3 && keep[0] && torn != 0 && !keep[1] {
					want, version = s.will, 5
				}
				if act < 3 {
					y := b.Begin(4)
					mustNotStep(t, y, api.Down)
					y.Abort()
				}
				mustGoOn(t, fmt.Sprintf("%s, %v kept, %d torn", l.what, keep, torn), d, version, want)
			})
		}
	}
}

// TestLeftMidway: a disk that is opened anew in the midst of a commit, with the power there, is at the version that its metas tell; whatever then survives a loss of power in the next commit, what it tells is whole.
func TestLeftMidway(t *testing.T) { // P13.1, P13.6
	s := makeStory(t)
	on := func(d *disk.Disk) (*base.Base, *base.Tx) {
		t.Helper()
		b := mustOpen(t, d)
		x := b.Begin(9)
		mustPut(t, x, "e", "k", long(2500), false)
		mustPut(t, x, "a", "k", "one more", true)
		return b, x
	}
	for steps := range 4 {
		first, version := s.was, uint64(4)
		if steps == 3 {
			first, version = s.will, 5
		}
		second := first.with("e", "k", long(2500)).with("a", "k", "one more")
		lost := map[uint64]int{}
		for act := 1; ; act++ {
			d, _, _ := s.stepped(t, steps)
			b, x := on(d)
			d.Arm(act)
			if x.Commit() == api.OK {
				mustBe(t, "behind the commit", b, version+1, second)
				d.Crash(nil, -1)
				mustGoOn(t, "opened anew", d, version+1, second)
				break
			}
			waits := d.Waiting()
			// Of what was left in the midst and of what is written now, a few sets stand for all.
			for set := range 20 {
				d, _, _ := s.stepped(t, steps)
				_, x := on(d)
				d.Arm(act)
				x.Commit()
				keep := bits(set*0x9E3779B1>>(set%7), len(waits))
				if set < 2 {
					keep = bits(-set, len(waits))
				}
				d.Crash(keep, set%9)
				b := mustOpen(t, d)
				lost[b.Version()]++
				want := map[uint64]trees{4: s.was, version: first, version + 1: second}[b.Version()]
				mustGoOn(t, fmt.Sprintf("left behind %d steps, the power gone in act %d, %v kept", steps, act, keep), d, b.Version(), want)
				if b.Version() < version && act > 1 {
					t.Errorf("P13.6: version %d, though %d was told", b.Version(), version)
				}
			}
		}
		if lost[version] == 0 || lost[version+1] == 0 {
			t.Errorf("the test's own losses lead to but %v", lost)
		}
	}
}

// TestAbortWhereAnotherMetaWaits: a transaction takes back no meta but its own.
func TestAbortWhereAnotherMetaWaits(t *testing.T) { // P13.4, P13.6
	s := makeStory(t)
	for steps := range 3 {
		d, _, _ := s.stepped(t, 3)
		b := mustOpen(t, d)
		x := b.Begin(5)
		mustPut(t, x, "e", "k", "v", false)
		for range steps {
			mustStep(t, x, false)
		}
		x.Abort()
		mustBe(t, "a disk that was left in the midst of a commit", mustOpen(t, d), 5, s.will)
		x = b.Begin(5)
		mustPut(t, x, "e", "k", "w", false)
		mustCommit(t, b, x, 6)
		d.Crash(nil, -1)
		mustGoOn(t, "opened anew", d, 6, s.will.with("e", "k", "w"))
	}
	// A base of no use leaves the disk as another one has it.
	d, b, x := s.stepped(t, 3)
	d.Arm(1)
	mustNotStep(t, x, api.Down)
	d.Crash(nil, -1)
	o := mustOpen(t, d)
	y := o.Begin(4)
	mustPut(t, y, "e", "k", "v", false)
	for range 3 {
		mustStep(t, y, false)
	}
	x.Abort()
	mustBe(t, "a base of no use", b, 4, s.was)
	mustStep(t, y, true)
	mustGoOn(t, "opened anew", d, 5, s.was.with("e", "k", "v"))
}
