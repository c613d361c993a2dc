package journal_test

import (
	"fmt"
	"math/rand"
	"slices"
	"strings"
	"testing"

	"copse/api"
	"copse/journal"
)

// The chapter's examples.

func exampleOld() []api.File { return list(f("a/b", 1), f("c", 1)) }
func exampleNow() []api.File { return list(f("a", 2), f("c", 1), f("d/e/g", 1)) }

func exampleSteps() []api.Step {
	return plans(remove("a/b"), rmdir("a"), mkdir("d"), mkdir("d/e"), write(f("a", 2)), write(f("d/e/g", 1)))
}

func TestExample1(t *testing.T) {
	old, now := exampleOld(), exampleNow()
	if got := stepsOf(old, now); !slices.Equal(got, exampleSteps()) {
		t.Fatalf("%+v", got)
	}
	w := begin(t, old...)
	answers(t, "P23.2", w.goes(old, now), api.OK)
	w.has("P23.2", now, ps("d", "d/e"), nil, 9)
	answers(t, "P23.2", w.goes(now, now), api.OK)
	w.has("P23.2", now, ps("d", "d/e"), nil, 9)
}

func TestExample2(t *testing.T) {
	old, now := exampleOld(), exampleNow()
	record := laid(exampleSteps()...)
	for _, c := range []struct {
		stop, keep int
		journal    []byte
		steps      int
		want       []api.File
		dirs       []string
	}{
		{3, 0, append(slices.Clone(record), 1), 7, now, ps("d", "d/e")},
		{2, 0, record, 1, old, ps("a")},
		{2, 1, append(slices.Clone(record), 1), 7, now, ps("d", "d/e")},
		{1, 5, record[:5], 1, old, ps("a")},
	} {
		w := begin(t, old...).stop(c.stop)
		answers(t, "P23.2", w.goes(old, now), api.ErrDown)
		w.has("P23.2", old, ps("a"), map[int][]byte{1: nil, 2: record, 3: append(slices.Clone(record), 1)}[c.stop], c.stop)
		w = w.crashed(c.keep)
		w.has("P23.5", old, ps("a"), c.journal, 0)
		answers(t, "P23.3", w.recovers(), api.OK)
		w.has("P23.5", c.want, c.dirs, nil, c.steps)
	}
}

func TestExample3(t *testing.T) {
	old, now := exampleOld(), exampleNow()
	begin(t, f("a/b", 1), f("a/x", 1), f("c", 1)).refuses(api.ErrDirty, old, now)
	w := begin(t, f("a/b", 1), f("c", 9))
	answers(t, "P23.2", w.goes(old, now), api.OK)
	w.has("P23.2", list(f("a", 2), f("c", 9), f("d/e/g", 1)), ps("d", "d/e"), nil, 9)
	w = begin(t, f("a/b", 1), f("c", 1), f("d/y", 1))
	answers(t, "P23.2", w.goes(old, now), api.OK)
	w.has("P23.2", list(f("a", 2), f("c", 1), f("d/e/g", 1), f("d/y", 1)), ps("d", "d/e"), nil, 8)
}

func TestExample4(t *testing.T) {
	old, now := exampleOld(), exampleNow()
	begin(t, old...).dirs("a/z").refuses(api.ErrDirty, old, now)
	begin(t, old...).dirs("d/e/g").refuses(api.ErrDirty, old, now)
}

// P23.2: what is refused.

// TestNoSnapshots: ahead of all else.
func TestNoSnapshots(t *testing.T) {
	bad := noSnapshots()
	for _, c := range bad {
		if e := snapFault(c.l); e != c.e {
			t.Fatalf("%+v: %d, want %d", c.l, e, c.e)
		}
		for _, w := range []*twin{
			begin(t), begin(t, exampleOld()...), begin(t, exampleOld()...).dirs("a/z", "d/e/g"), begin(t, exampleOld()...).stop(1),
			begin(t, exampleOld()...).journal(1), begin(t, exampleNow()...).journal(whole(exampleSteps()...)...), begin(t, exampleOld()...).journal(1).stop(1),
		} {
			for _, good := range [][]api.File{nil, exampleOld(), exampleNow()} {
				w.refuses(c.e, c.l, good)
				w.refuses(c.e, good, c.l)
			}
			if len(c.l) < 500 {
				w.refuses(c.e, c.l, c.l)
			}
		}
		for _, other := range bad { // old's is the answer
			if len(c.l) < 500 && len(other.l) < 500 {
				begin(t, exampleOld()...).refuses(c.e, c.l, other.l)
			}
		}
	}
}

// someJournals are journals that are not empty.
func someJournals() [][]byte {
	record := laid(exampleSteps()...)
	l := [][]byte{
		{0}, {1}, {1, 2, 3}, {255}, make([]byte, 8), make([]byte, 16), append(make([]byte, 16), 1), []byte(strings.Repeat("journal", 99)),
		laid(), whole(), append(whole(), 1), append(laid(), 2), append([]byte{1}, whole()...),
		record, append(slices.Clone(record), 0), append(slices.Clone(record), 2), append(slices.Clone(record), 1, 1), append(slices.Clone(record), 1, 0), whole(exampleSteps()...),
		slices.Concat(record, record), slices.Concat(record, record, []byte{1}), slices.Concat(whole(exampleSteps()...), whole(exampleSteps()...)), slices.Concat(record[:9], whole(mkdir("z"))),
		whole(mkdir("z")), whole(remove("c")), whole(api.Step{Kind: 5, Path: "a"}), whole(mkdir("")), whole(write(api.File{Path: "a", Size: -1})), whole(mkdir("z"), remove("/")),
	}
	for n := 1; n < len(record); n++ {
		l = append(l, record[:n])
	}
	return l
}

// TestGoOfJournals: whatever the journal is, and whether there is anything to do.
func TestGoOfJournals(t *testing.T) {
	old, now := exampleOld(), exampleNow()
	for _, b := range someJournals() {
		w := begin(t, old...).journal(b...)
		for _, w := range []*twin{w, w.crashed(0).stop(1), w.crashed(0).stop(9), w.crashed(0).dirs("a/z", "d/e/g"), w.crashed(0).hand(write(f("a/b", 7)))} {
			w.refuses(api.ErrTree, old, now)
			w.refuses(api.ErrTree, now, old)
			w.refuses(api.ErrTree, old, old)
			w.refuses(api.ErrTree, nil, nil)
		}
		w.x.Clear()
		w.m.clear()
		answers(t, "P23.2", w.goes(old, now), api.OK)
	}
}

// TestErrorsInOrder: the tree is stopped already, but what comes ahead of that is told.
func TestErrorsInOrder(t *testing.T) {
	old, now := exampleOld(), exampleNow()
	down := begin(t, old...).stop(1)
	answers(t, "P23.2", down.goes(old, now), api.ErrDown)
	for _, w := range []*twin{down, begin(t, old...).stop(1)} {
		answers(t, "P23.2", w.goes(old, old), api.OK)
		answers(t, "P23.2", w.goes(nil, nil), api.OK)
		answers(t, "P23.3", w.recovers(), api.OK)
		w.refuses(api.ErrDirty, list(f("a/b", 7)), nil)
		w.refuses(api.ErrDirty, now, old)
		w.refuses(api.ErrSnap, list(f("b", 1), f("a", 1)), nil)
		w.refuses(api.ErrPath, nil, list(f("b", 1), f("", 1)))
		steps := w.x.Steps()
		answers(t, "P23.2", w.goes(old, now), api.ErrDown)
		answers(t, "P23.2", w.goes(old, nil), api.ErrDown)
		w.has("P23.2", old, ps("a"), nil, steps+2)
	}
}

// The plan from wayOld to wayNow: Delete s, g/h/i, d/x, Rmdir g/h, g, Mkdir n, n/o, s, Write k/w, n/o/p, s/t.
func wayOld() []api.File {
	return list(f("d/x", 1), f("d/y", 1), f("g/h/i", 1), f("k/w", 1), f("k/z", 1), f("s", 1))
}

func wayNow() []api.File {
	return list(f("d/y", 1), f("k/w", 2), f("k/z", 1), f("n/o/p", 1), f("s/t", 1))
}

// TestFilesByHand has files that were changed, one way each: refused, or left as they are.
func TestFilesByHand(t *testing.T) {
	old, now := wayOld(), wayNow()
	for _, c := range []struct {
		steps []api.Step
		e     api.Errno
	}{
		{nil, api.OK},
		// otherwise
		{plans(write(f("d/x", 2))), api.ErrDirty},
		{plans(write(api.File{Path: "d/x", Blob: 1, Size: 2})), api.ErrDirty},
		{plans(write(f("g/h/i", 2))), api.ErrDirty},
		{plans(write(f("k/w", 3))), api.ErrDirty},
		{plans(write(f("k/w", 2))), api.ErrDirty}, // as now has it, too
		{plans(write(f("s", 2))), api.ErrDirty},
		{plans(write(f("d/y", 2)), write(f("k/z", 2))), api.OK},
		// gone
		{plans(remove("d/x")), api.ErrDirty},
		{plans(remove("g/h/i")), api.ErrDirty},
		{plans(remove("g/h/i"), rmdir("g/h"), rmdir("g")), api.ErrDirty},
		{plans(remove("k/w")), api.ErrDirty},
		{plans(remove("s")), api.ErrDirty},
		{plans(remove("d/y"), remove("k/z")), api.OK},
		// besides
		{plans(write(f("n/o/p", 1))), api.ErrDirty},
		{plans(write(f("n", 1))), api.ErrDirty},
		{plans(write(f("n/o", 1))), api.ErrDirty},
		{plans(write(f("n/o/p/q", 1))), api.ErrDirty},
		{plans(write(f("g/a", 1))), api.ErrDirty},
		{plans(write(f("g/z/z", 1))), api.ErrDirty},
		{plans(write(f("g/h/i-", 1))), api.ErrDirty},
		{plans(write(f("n/a", 1)), write(f("n/o/a", 1)), write(f("n/z/z", 1))), api.OK},
		{plans(write(f("d/a", 1)), write(f("d/x-", 1)), write(f("d/z/z", 1)), write(f("k/a", 1))), api.OK},
		{plans(write(f("a", 1)), write(f("d-/x", 1)), write(f("g-/h", 1)), write(f("gg", 1)), write(f("s-", 1)), write(f("z/z", 1))), api.OK},
		// a file for a directory, a directory for a file
		{plans(remove("d/x"), remove("d/y"), rmdir("d"), write(f("d", 1))), api.ErrDirty},
		{plans(remove("s"), write(f("s/t", 1))), api.ErrDirty},
		{plans(remove("s"), write(f("s/u", 1))), api.ErrDirty},
		{plans(remove("k/z"), write(f("k/z/a", 1))), api.OK},
	} {
		w := begin(t, old...).hand(c.steps...)
		before := w.x.Files()
		if c.e != api.OK {
			w.refuses(c.e, old, now)
			continue
		}
		answers(t, fmt.Sprintf("P23.2: %+v", c.steps), w.goes(old, now), api.OK)
		w.wentWhole("P23.5", before, now, stepsOf(old, now))
	}
}

// wentWhole: P23.5, by what the tree tells alone.
func (w *twin) wentWhole(promise string, before, view []api.File, steps []api.Step) {
	w.t.Helper()
	places, is, was, will := touched(steps), byPath(w.x.Files()), byPath(before), byPath(view)
	for _, p := range slices.Concat(places, pathsOf(before), pathsOf(w.x.Files()), pathsOf(view)) {
		want := was
		if slices.Contains(places, p) {
			want = will
		}
		x, ok := is[p]
		y, ok2 := want[p]
		if x != y || ok != ok2 {
			w.t.Fatalf("%s: at %q %+v, want %+v; before %+v, the view %+v, the steps %+v", promise, p, x, y, before, view, steps)
		}
	}
	if b := w.x.Journal(); len(b) != 0 {
		w.t.Fatalf("%s: the journal is % x", promise, b)
	}
}

// TestDirectoriesByHand has directories that were made, in the way or not.
func TestDirectoriesByHand(t *testing.T) {
	old, now := list(f("a/b", 1), f("c", 1), f("h/i/j", 1), f("k", 1)), list(f("a", 2), f("c", 2), f("d/e/g", 1), f("h/l", 1), f("k", 1))
	// Delete h/i/j, a/b, Rmdir h/i, a, Mkdir d, d/e, Write a, c, d/e/g, h/l
	for _, c := range []struct {
		dirs  []string
		e     api.Errno
		steps int      // besides those by hand
		want  []string // the directories then
	}{
		{nil, api.OK, 13, ps("d", "d/e", "h")},
		{ps("a/z"), api.ErrDirty, 0, nil},
		{ps("a/z/y"), api.ErrDirty, 0, nil},
		{ps("a/a", "a/c"), api.ErrDirty, 0, nil},
		{ps("d/e/g"), api.ErrDirty, 0, nil},
		{ps("d/e/g/x/y"), api.ErrDirty, 0, nil},
		{ps("h/l"), api.ErrDirty, 0, nil},
		{ps("h/l/m"), api.ErrDirty, 0, nil},
		{ps("z", "h/l"), api.ErrDirty, 0, nil},
		{ps("h/k", "h/m/l"), api.OK, 13, ps("d", "d/e", "h", "h/k", "h/m", "h/m/l")},
		{ps("d"), api.OK, 12, ps("d", "d/e", "h")},
		{ps("d/e"), api.OK, 11, ps("d", "d/e", "h")},
		{ps("d/e/f", "d/e/gg", "d/e/h/g"), api.OK, 11, ps("d", "d/e", "d/e/f", "d/e/gg", "d/e/h", "d/e/h/g", "h")},
		{ps("d/g", "d/f/g"), api.OK, 12, ps("d", "d/e", "d/f", "d/f/g", "d/g", "h")},
		{ps("a-", "aa/b", "b", "l", "g"), api.OK, 13, ps("a-", "aa", "aa/b", "b", "d", "d/e", "g", "h", "l")},
		// a directory that goes has one in it: it stays
		{ps("h/i/z"), api.OK, 12, ps("d", "d/e", "h", "h/i", "h/i/z")},
		{ps("h/i/l/l"), api.OK, 12, ps("d", "d/e", "h", "h/i", "h/i/l", "h/i/l/l")},
	} {
		w := begin(t, old...).dirs(c.dirs...)
		n := w.x.Steps()
		if c.e != api.OK {
			w.refuses(c.e, old, now)
			w.stop(1).refuses(c.e, old, now)
			w.crashed(0).journal(1).refuses(api.ErrTree, old, now)
			continue
		}
		answers(t, fmt.Sprintf("P23.2: %q", c.dirs), w.goes(old, now), api.OK)
		w.has(fmt.Sprintf("P23.2: %q", c.dirs), now, c.want, nil, n+c.steps)
	}
	// a directory of old in which nothing of old is left is one of old all the same
	w := begin(t, f("a/b/c", 1)).hand(remove("a/b/c"))
	w.refuses(api.ErrDirty, list(f("a/b/c", 1)), list(f("a", 1)))
	w = begin(t, f("a/b/c", 1), f("a/b/d", 1))
	answers(t, "P23.2", w.goes(list(f("a/b/c", 1), f("a/b/d", 1)), list(f("a/b", 2))), api.OK)
	w.has("P23.2", list(f("a/b", 2)), ps("a"), nil, 7)
	// old is not the tree: a directory is there that old has not, and what is in it may not be in the way
	begin(t, f("a/b", 1)).refuses(api.ErrDirty, nil, list(f("a", 1)))
	begin(t).dirs("a").refuses(api.ErrDirty, nil, list(f("a", 1)))
	begin(t).dirs("a/b/c").refuses(api.ErrDirty, nil, list(f("a/b", 1)))
	begin(t).dirs("a/b/c").refuses(api.ErrDirty, list(f("x", 1)), list(f("a/b/c", 1), f("x", 1)))
	begin(t, f("a", 1)).refuses(api.ErrDirty, nil, list(f("a/b/c", 1)))
}

// TestDirectoriesThatAreThere: of those that a plan makes, and above a file that it writes, just those that are not there are made.
func TestDirectoriesThatAreThere(t *testing.T) {
	now := list(f("a/b/c/d", 1), f("a/b/e/f", 1))
	for i, c := range []struct {
		dirs  []string
		steps int
	}{{nil, 9}, {ps("a"), 8}, {ps("a/b"), 7}, {ps("a/b/c"), 6}, {ps("a/b/e"), 6}, {ps("a/b/c", "a/b/e"), 5}} {
		w := begin(t).dirs(c.dirs...)
		n := w.x.Steps()
		answers(t, "P23.2", w.goes(nil, now), api.OK)
		w.has(fmt.Sprintf("P23.2: %d", i), now, ps("a", "a/b", "a/b/c", "a/b/e"), nil, n+c.steps)
	}
	// a directory that old and now have was taken away by hand: it is made for the file
	old := list(f("a/b/x", 1), f("c", 1))
	now = list(f("a/b/x", 1), f("a/b/y", 1), f("a/b/z", 1), f("c", 1))
	w := begin(t, old...).hand(remove("a/b/x"), rmdir("a/b"), rmdir("a"))
	answers(t, "P23.2", w.goes(old, now), api.OK)
	w.has("P23.2", list(f("a/b/y", 1), f("a/b/z", 1), f("c", 1)), ps("a", "a/b"), nil, 3+7)
	// and one above a directory that the plan makes
	old = list(f("a/x", 1))
	now = list(f("a/b/y", 1), f("a/x", 1))
	w = begin(t, old...).hand(remove("a/x"), rmdir("a"))
	answers(t, "P23.2", w.goes(old, now), api.OK)
	w.has("P23.2", list(f("a/b/y", 1)), ps("a", "a/b"), nil, 2+6)
	// what goes was taken away by hand
	w = begin(t, f("a/x", 1), f("c", 1)).hand(remove("c"))
	w.refuses(api.ErrDirty, list(f("a/x", 1), f("c", 1)), nil)
}

// TestSameViews: nothing is done, whatever was changed by hand.
func TestSameViews(t *testing.T) {
	for _, l := range [][]api.File{nil, exampleOld(), exampleNow(), wayOld(), numbered(512)} {
		for _, w := range []*twin{
			begin(t), begin(t, l...), begin(t, l...).dirs("e/z"), begin(t, l...).hand(write(f("z", 9))), begin(t, exampleOld()...), begin(t, wayNow()...).stop(1),
		} {
			before := ask(w.x)
			answers(t, "P23.2", w.goes(l, l), api.OK)
			answers(t, "P23.2", w.goes(l, slices.Clone(l)), api.OK)
			if !ask(w.x).is(before) {
				t.Errorf("P23.2: nothing was to be done: %+v, it was %+v", ask(w.x), before)
			}
		}
	}
}

// TestStepByStep has what stands in the tree at each step of the example.
func TestStepByStep(t *testing.T) {
	old, now := exampleOld(), exampleNow()
	record := laid(exampleSteps()...)
	journal := append(slices.Clone(record), 1)
	mid := list(f("c", 1))
	end := list(f("a", 2), f("c", 1))
	for i, c := range []struct {
		files   []api.File
		dirs    []string
		journal []byte
	}{
		{old, ps("a"), nil},
		{old, ps("a"), record},
		{old, ps("a"), journal},
		{mid, ps("a"), journal},
		{mid, nil, journal},
		{mid, ps("d"), journal},
		{mid, ps("d", "d/e"), journal},
		{end, ps("d", "d/e"), journal},
		{now, ps("d", "d/e"), journal},
	} {
		w := begin(t, old...).stop(i + 1)
		answers(t, fmt.Sprintf("P23.2: stopped at %d", i+1), w.goes(old, now), api.ErrDown)
		w.has(fmt.Sprintf("P23.2: stopped at %d", i+1), c.files, c.dirs, c.journal, i+1)
	}
	w := begin(t, old...).stop(10)
	answers(t, "P23.2", w.goes(old, now), api.OK)
	w.has("P23.2", now, ps("d", "d/e"), nil, 9)
}

// TestEachStepOfTheWay: the same of a plan with each kind of step, several times, and of its way back.
func TestEachStepOfTheWay(t *testing.T) {
	for _, c := range [][2][]api.File{{wayOld(), wayNow()}, {wayNow(), wayOld()}, {nil, wayOld()}, {wayOld(), nil}, {exampleNow(), wayNow()}} {
		for n := 1; ; n++ {
			w := begin(t, c[0]...).stop(n)
			if w.goes(c[0], c[1]) == api.OK {
				w.has("P23.2", c[1], dirsOf(c[1]), nil, len(stepsOf(c[0], c[1]))+3)
				break
			}
		}
	}
}

// TestThereAndBack goes on with one tree.
func TestThereAndBack(t *testing.T) {
	r := rand.New(rand.NewSource(2))
	for range 40 {
		view := someSnapshot(r, r.Intn(8), 3)
		w := begin(t, view...)
		for range 20 {
			next := turned(r, view, r.Intn(6), 3)
			n := w.x.Steps()
			answers(t, "P23.2", w.goes(view, next), api.OK)
			if l := stepsOf(view, next); len(l) > 0 {
				n += len(l) + 3
			}
			w.has("P23.2", next, dirsOf(next), nil, n)
			view = next
		}
	}
}

// TestFullSnapshots has as many files as may be, with as many directories.
func TestFullSnapshots(t *testing.T) {
	var old, now []api.File
	for i := range 512 {
		old = append(old, f(fmt.Sprintf("a%03d/b/c/d/e/f/g/h/i/j/k/l", i), i))
		now = append(now, f(fmt.Sprintf("a%03d/b/c/d/e/f/g/h-/i/j/k/l", i+256), i+256))
	}
	w := begin(t, old...)
	if e := journal.Go(w.x, old, now); e != api.OK {
		t.Fatalf("P23.2: %d", e)
	}
	w.has("P23.2", now, dirsOf(now), nil, 512+256*11+256*4+256*11+256*4+512+3)
	if e := journal.Go(w.x, old, now); e != api.ErrDirty {
		t.Errorf("P23.2: %d", e)
	}
	if e := journal.Go(w.x, now, nil); e != api.OK {
		t.Fatalf("P23.2: %d", e)
	}
	if len(w.x.Files()) != 0 || len(w.x.Dirs()) != 0 {
		t.Errorf("P23.2: %v, %q", w.x.Files(), w.x.Dirs())
	}
}

// TestPathsAtTheLimits: as deep and as long as may be, with directories there up to each depth.
func TestPathsAtTheLimits(t *testing.T) {
	deep := strings.Repeat("d/", 11) + "f"
	long := strings.Repeat(strings.Repeat("e", 29)+"/", 3) + strings.Repeat("e", 30)
	both := strings.Repeat("123456789/", 11) + "1234567890"
	for _, p := range ps(deep, long, both) {
		now := list(f(p, 1))
		for i, d := range append(over(p), "") {
			w := begin(t)
			if d != "" {
				w.dirs(d)
			}
			n, there := w.x.Steps(), (i+1)%(len(over(p))+1)
			answers(t, "P23.2", w.goes(nil, now), api.OK)
			w.has("P23.2", now, over(p), nil, n+4+len(over(p))-there)
			n = w.x.Steps()
			answers(t, "P23.2", w.goes(now, nil), api.OK)
			w.has("P23.2", nil, nil, nil, n+4+len(over(p)))
			if d == "" {
				continue
			}
			w = begin(t, now...) // the file moves to where its directory was
			answers(t, "P23.2", w.goes(now, list(f(d, 2))), api.OK)
			w.has("P23.2", list(f(d, 2)), over(d), nil, 5+len(over(p))-len(over(d)))
			begin(t, now...).dirs(d+"/x").refuses(api.ErrDirty, now, list(f(d, 2)))
			begin(t).dirs(p).refuses(api.ErrDirty, nil, list(f(d, 2)))
		}
	}
}

// smallSnapshots are all of a few places.
func smallSnapshots() [][]api.File {
	places := list(f("a", 1), f("a", 2), f("a/b", 1), f("a/b", 2), f("a/b/c", 1), f("a/d", 1), f("e", 1))
	var out [][]api.File
	for bits := range 1 << len(places) {
		var l []api.File
		for i, x := range places {
			if bits>>i&1 == 1 {
				l = append(l, x)
			}
		}
		if snapFault(l) == api.OK {
			out = append(out, l)
		}
	}
	return out
}

// TestSmallWorlds goes between all of these, of each tree of one of them, with directories made by hand. W4: what is refused leaves the tree as it was; else all is as now has it, and no step is refused on the way.
func TestSmallWorlds(t *testing.T) {
	views := smallSnapshots()
	yes, no := 0, 0
	for _, files := range views {
		for _, dirs := range [][]string{nil, {"a"}, {"a/b"}, {"a/b/c"}, {"a/d"}, {"a/b/x"}, {"e"}, {"e/x"}, {"a/d/x", "a/b"}} {
			w := begin(t, files...)
			if slices.ContainsFunc(dirs, func(d string) bool { return slices.ContainsFunc(append(over(d), d), w.m.isFile) }) {
				continue
			}
			for _, d := range dirs {
				if !w.m.isDir(d) {
					w.dirs(d)
				}
			}
			for _, old := range views {
				for _, now := range views {
					w := w.crashed(0)
					before := ask(w.x)
					switch e := w.goes(old, now); {
					case e == api.OK:
						w.wentWhole("P23.5", files, now, stepsOf(old, now))
						yes++
					case e == api.ErrDirty && ask(w.x).is(before):
						no++
					default:
						t.Fatalf("P23.2: Go from %+v to %+v: %d, of %+v: %+v", old, now, e, before, ask(w.x))
					}
				}
			}
		}
	}
	if yes < 4000 || no < 4000 {
		t.Errorf("%d went, %d were refused", yes, no)
	}
}

// TestDrawnWorlds: trees that were changed by hand in many ways.
func TestDrawnWorlds(t *testing.T) {
	r := rand.New(rand.NewSource(3))
	yes, no := 0, 0
	for range 12000 {
		w, old, now := someWorld(t, r, r.Intn(9), r.Intn(6), r.Intn(5))
		before := w.x.Files()
		switch e := w.goes(old, now); e {
		case api.OK:
			w.wentWhole("P23.5", before, now, stepsOf(old, now))
			yes++
		case api.ErrDirty:
			w.wentWhole("P23.5", before, before, nil)
			no++
		default:
			t.Fatalf("P23.2: %d", e)
		}
	}
	if yes < 1500 || no < 1500 {
		t.Errorf("%d went, %d were refused", yes, no)
	}
}
