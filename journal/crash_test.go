package journal_test

import (
	"math/rand"
	"slices"
	"testing"

	"copse/api"
)

// P23.5 (W4)

// world is a tree ahead of a plan, and the views that this goes between.
type world struct {
	w        *twin
	old, now []api.File
}

// cutAt is the n-th step of Go, with what is kept of it when it is torn.
type cutAt struct{ n, keep int }

// cuts are all the ways in which Go may be cut off; none, if nothing is to be done.
func cuts(steps []api.Step, done int) []cutAt {
	if len(steps) == 0 {
		return nil
	}
	var l []cutAt
	for keep := range len(laid(steps...)) + 1 {
		l = append(l, cutAt{1, keep})
	}
	l = append(l, cutAt{2, 0}, cutAt{2, 1})
	for n := 3; n <= done; n++ {
		l = append(l, cutAt{n, 0})
	}
	return l
}

// crashes cuts Go at each step, and then Recover, as often as may be: each state that a crash may leave is gone on from once. It tells how many there were.
func (x world) crashes(t *testing.T) int {
	t.Helper()
	steps := stepsOf(x.old, x.now)
	before := x.w.x.Files()
	end := x.w.crashed(0)
	answers(t, "P23.2", end.goes(x.old, x.now), api.OK)
	end.wentWhole("P23.5: Go", before, x.now, steps)
	seen := map[string]bool{}
	for _, c := range cuts(steps, end.x.Steps()) {
		w := x.w.crashed(0).stop(c.n)
		answers(t, "P23.2", w.goes(x.old, x.now), api.ErrDown)
		view := x.old
		if c.n > 2 || c == (cutAt{2, 1}) {
			view = x.now
		}
		for work := []*twin{w.crashed(c.keep)}; len(work) > 0; {
			left := work[len(work)-1]
			work = work[:len(work)-1]
			if key := left.m.told().key(); !seen[key] {
				seen[key] = true
				work = append(work, left.recoveries(before, view, steps)...)
			}
		}
	}
	return len(seen)
}

// recoveries goes on with a tree that has crashed: Recover ends it, or is cut at each of its steps, which leaves these.
func (w *twin) recoveries(before, view []api.File, steps []api.Step) []*twin {
	w.t.Helper()
	var left []*twin
	for n := 1; ; n++ {
		y := w.crashed(0).stop(n)
		if e := y.recovers(); e == api.ErrDown {
			left = append(left, y.crashed(n-2)) // no Append: nothing is torn, whatever is kept
			continue
		} else if e != api.OK {
			w.t.Fatalf("P23.5: Recover: %d, of %+v", e, ask(w.x))
		}
		y.wentWhole("P23.5: Recover", before, view, steps)
		was := ask(y.x)
		answers(w.t, "P23.5", y.recovers(), api.OK)
		if !ask(y.x).is(was) {
			w.t.Fatalf("P23.5: Recover twice: %+v, want %+v", ask(y.x), was)
		}
		return left
	}
}

// chosen are worlds with all that may go wrong in them.
func chosen(t *testing.T) []world {
	old, now := exampleOld(), exampleNow()
	deep := list(f("a/b/c/d/e", 1), f("a/b/x", 1), f("g", 1))
	return []world{
		{begin(t, old...), old, now},
		{begin(t, now...), now, old},
		{begin(t, wayOld()...), wayOld(), wayNow()},
		{begin(t, wayNow()...), wayNow(), wayOld()},
		{begin(t), nil, now},
		{begin(t, now...), now, nil},
		{begin(t, old...), old, old},
		{begin(t, f("a/b", 1), f("c", 9)), old, now},
		{begin(t, f("a/b", 1), f("c", 1), f("d/y", 1)), old, now},
		{begin(t, f("a/b", 1)), old, now},
		{begin(t, old...).dirs("d", "d/e", "e/f"), old, now},
		{begin(t, deep...), deep, list(f("a", 2), f("g/h", 1))},
		{begin(t, deep...), deep, list(f("a/b", 2), f("g", 2))},
		{begin(t, deep...).dirs("a/y/z"), deep, list(f("g/a/b", 1))},            // a stays, with what was made in it
		{begin(t, deep...).dirs("a/b/c/d/y", "a/b/z"), deep, list(f("a/x", 1))}, // and so does a/b, and a/b/c/d
		{begin(t, deep...).hand(remove("g"), write(f("g/h", 7)), write(target("i/TARGETS", "x"))), deep, append(slices.Clone(deep), f("z/a", 1), f("z/b", 1))},
		{begin(t, deep...).hand(remove("a/b/x"), remove("a/b/c/d/e"), rmdir("a/b/c/d"), rmdir("a/b/c"), rmdir("a/b"), rmdir("a")), deep, list(deep[0], f("a/b/c/e", 1), deep[1], deep[2])},
		{begin(t, target("TARGETS", "a"), target("a/TARGETS", "")), list(target("TARGETS", "a"), target("a/TARGETS", "")), list(f("TARGETS/a", 1), target("a/TARGETS", "\xff\x00"))},
		{begin(t, f("a", 1), f("b/c", 1)), list(f("a", 1), f("b/c", 1)), list(f("a/c", 1), f("b", 1))}, // both ways at once
	}
}

func TestCrashes(t *testing.T) {
	states := 0
	for _, x := range chosen(t) {
		states += x.crashes(t)
	}
	if states < 1000 {
		t.Errorf("%d states", states)
	}
}

// TestCommitIsWhatCounts: ahead of its byte all is as before, whatever of the record lay; behind it all is as now.
func TestCommitIsWhatCounts(t *testing.T) {
	for _, x := range chosen(t) {
		record := laid(stepsOf(x.old, x.now)...)
		if len(record) == 16 {
			continue
		}
		before := x.w.x.Files()
		for keep := -3; keep < 2*len(record)+5; keep++ {
			w := x.w.crashed(0).stop(1)
			answers(t, "P23.5", w.goes(x.old, x.now), api.ErrDown)
			w = w.crashed(keep)
			want := 1
			if len(w.x.Journal()) == 0 {
				want = 0
			}
			dirs := w.x.Dirs()
			answers(t, "P23.5", w.recovers(), api.OK)
			w.has("P23.5", before, dirs, nil, want)
			answers(t, "P23.5", w.goes(x.old, x.now), api.OK)
			w.wentWhole("P23.5", before, x.now, stepsOf(x.old, x.now))
		}
		for keep := -3; keep < 4; keep++ {
			w := x.w.crashed(0).stop(2)
			answers(t, "P23.5", w.goes(x.old, x.now), api.ErrDown)
			w = w.crashed(keep)
			answers(t, "P23.5", w.recovers(), api.OK)
			view := x.old
			if keep&1 == 1 {
				view = x.now
			}
			w.wentWhole("P23.5", before, view, stepsOf(x.old, x.now))
		}
	}
}

// TestGoBehindACrash: Go does nothing till Recover has been.
func TestGoBehindACrash(t *testing.T) {
	for _, x := range chosen(t) {
		steps, before := stepsOf(x.old, x.now), x.w.x.Files()
		for n := 2; ; n++ {
			w := x.w.crashed(0).stop(n)
			if w.goes(x.old, x.now) == api.OK {
				break
			}
			w = w.crashed(0)
			w.refuses(api.ErrTree, x.old, x.now)
			w.refuses(api.ErrTree, x.now, x.old)
			answers(t, "P23.5", w.recovers(), api.OK)
			if n == 2 {
				w.wentWhole("P23.5", before, x.old, steps)
			} else {
				w.wentWhole("P23.5", before, x.now, steps)
			}
		}
	}
}

// TestCrashesOfDrawnWorlds cuts small plans at each step, each time till there is no other state.
func TestCrashesOfDrawnWorlds(t *testing.T) {
	r := rand.New(rand.NewSource(6))
	worlds := 0
	for worlds < 60 {
		w, old, now := someWorld(t, r, r.Intn(5), 1+r.Intn(3), r.Intn(4))
		if e := w.crashed(0).goes(old, now); e == api.OK {
			world{w, old, now}.crashes(t)
			worlds++
		}
	}
}

// TestLongScripts goes on with one tree through plans, crashes and changes by hand. What the view is can be told from where it was cut.
func TestLongScripts(t *testing.T) {
	r := rand.New(rand.NewSource(7))
	for range 60 {
		view := someSnapshot(r, r.Intn(8), 3)
		w := begin(t, view...)
		for range 25 {
			w.spoiled(r, r.Intn(2), view)
			next := turned(r, view, r.Intn(5), 3)
			steps, before := stepsOf(view, next), w.x.Files()
			n, keep := 1+r.Intn(len(steps)+4), r.Intn(400)
			w.stop(n)
			e := w.goes(view, next)
			if e == api.ErrDirty {
				w.wentWhole("P23.5", before, before, nil)
				w.stop(0)
				continue
			}
			is := view
			if e == api.OK || n > 2 || n == 2 && keep&1 == 1 {
				is = next
			}
			for e != api.OK {
				w = w.crashed(keep).stop(r.Intn(12))
				e = w.recovers()
			}
			w.wentWhole("P23.5", before, is, steps)
			w = w.crashed(0)
			view = is
		}
	}
}
