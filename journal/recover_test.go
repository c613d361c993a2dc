package journal_test

import (
	"fmt"
	"math/rand"
	"slices"
	"testing"

	"copse/api"
	"copse/journal"
)

// P23.3

func TestRecoverOfNoJournal(t *testing.T) {
	for _, l := range [][]api.File{nil, exampleOld(), wayOld()} {
		for _, w := range []*twin{begin(t, l...), begin(t, l...).stop(1), begin(t, l...).dirs("e/z")} {
			n := w.x.Steps()
			for range 3 {
				answers(t, "P23.3", w.recovers(), api.OK)
				w.has("P23.3", l, w.x.Dirs(), nil, n)
			}
		}
	}
	w := begin(t, exampleOld()...).journal() // of no bytes
	answers(t, "P23.3", w.recovers(), api.OK)
	w.has("P23.3", exampleOld(), ps("a"), nil, 1)
}

// TestRecoverOfJournalsThatAreNotCommitted: one step, that clears them.
func TestRecoverOfJournalsThatAreNotCommitted(t *testing.T) {
	cleared := 0
	for _, b := range someJournals() {
		if _, ok := stepsIn(b); ok {
			continue
		}
		cleared++
		w := begin(t, exampleOld()...).dirs("e/z").journal(b...)
		down := w.crashed(0).stop(1)
		answers(t, "P23.3", w.recovers(), api.OK)
		w.has("P23.3", exampleOld(), ps("a", "e", "e/z"), nil, 4)
		answers(t, "P23.3", w.recovers(), api.OK)
		w.has("P23.3", exampleOld(), ps("a", "e", "e/z"), nil, 4)
		answers(t, "P23.3", down.recovers(), api.ErrDown)
		down.has("P23.3", exampleOld(), ps("a", "e", "e/z"), b, 1)
		again := down.crashed(1)
		again.has("P23.5", exampleOld(), ps("a", "e", "e/z"), b, 0)
		answers(t, "P23.3", again.recovers(), api.OK)
		again.has("P23.3", exampleOld(), ps("a", "e", "e/z"), nil, 1)
	}
	if cleared < 100 {
		t.Errorf("%d journals", cleared)
	}
}

// TestRecoverOfCommittedJournals lays records by hand, and has how many steps they come to.
func TestRecoverOfCommittedJournals(t *testing.T) {
	files := list(f("a/b", 1), f("a/d/e", 1), f("c", 1))
	for _, c := range []struct {
		name  string
		steps []api.Step
		count int // Clear too
		files []api.File
		dirs  []string
	}{
		{"none", nil, 1, files, ps("a", "a/d")},
		{"Delete", plans(remove("c")), 2, files[:2], ps("a", "a/d")},
		{"Delete of two", plans(remove("a/d/e"), remove("a/b")), 3, files[2:], ps("a", "a/d")},
		{"Delete of a directory", plans(remove("a"), remove("a/d")), 1, files, ps("a", "a/d")},
		{"Delete of nothing", plans(remove("x"), remove("a/x"), remove("c/x"), remove("x/y/z")), 1, files, ps("a", "a/d")},
		{"Delete twice", plans(remove("c"), remove("c")), 2, files[:2], ps("a", "a/d")},
		{"Rmdir of one that is not empty", plans(rmdir("a"), rmdir("a/d")), 1, files, ps("a", "a/d")},
		{"Rmdir of a file", plans(rmdir("c"), rmdir("a/b")), 1, files, ps("a", "a/d")},
		{"Rmdir of nothing", plans(rmdir("x"), rmdir("a/x"), rmdir("c/x"), rmdir("x/y")), 1, files, ps("a", "a/d")},
		{"Rmdir of one that has become empty", plans(rmdir("a/d"), remove("a/d/e"), rmdir("a/d"), rmdir("a/d"), rmdir("a")), 3, list(files[0], files[2]), ps("a")},
		{"Rmdir of all", plans(remove("a/d/e"), remove("a/b"), rmdir("a"), rmdir("a/d"), rmdir("a")), 5, files[2:], nil},
		{"Rmdir of one in which one is", plans(mkdir("x/y"), rmdir("x"), rmdir("x/y"), rmdir("x")), 5, files, ps("a", "a/d")},
		{"Mkdir", plans(mkdir("x")), 2, files, ps("a", "a/d", "x")},
		{"Mkdir with those above", plans(mkdir("x/y/z"), mkdir("a/d/g/h")), 6, files, ps("a", "a/d", "a/d/g", "a/d/g/h", "x", "x/y", "x/y/z")},
		{"Mkdir of what is there", plans(mkdir("a"), mkdir("a/d")), 1, files, ps("a", "a/d")},
		{"Mkdir of a file", plans(mkdir("c"), mkdir("a/d/e")), 1, files, ps("a", "a/d")},
		{"Mkdir twice", plans(mkdir("x"), mkdir("x")), 2, files, ps("a", "a/d", "x")},
		{"Mkdir where a file was", plans(remove("c"), mkdir("c"), mkdir("c/d")), 4, files[:2], ps("a", "a/d", "c", "c/d")},
		{"Write", plans(write(f("x", 7))), 2, append(slices.Clone(files), f("x", 7)), ps("a", "a/d")},
		{"Write in place", plans(write(f("a/b", 7)), write(f("a/b", 8))), 3, list(f("a/b", 8), files[1], files[2]), ps("a", "a/d")},
		{"Write of the same", plans(write(files[0])), 2, files, ps("a", "a/d")},
		{"Write with directories", plans(write(f("x/y/z", 7))), 4, append(slices.Clone(files), f("x/y/z", 7)), ps("a", "a/d", "x", "x/y")},
		{"Write with one directory", plans(write(f("a/g/h", 7)), write(f("a/g/i", 7))), 4, list(files[0], files[1], f("a/g/h", 7), f("a/g/i", 7), files[2]), ps("a", "a/d", "a/g")},
		{"Write where one was", plans(remove("c"), write(f("c", 7)), remove("c"), write(f("c/d", 7))), 6, append(slices.Clone(files[:2]), f("c/d", 7)), ps("a", "a/d", "c")},
		{"Write where a directory was", plans(remove("a/d/e"), rmdir("a/d"), write(f("a/d", 7))), 4, list(files[0], f("a/d", 7), files[2]), ps("a")},
		{"Write and Delete in one that is then empty", plans(write(f("x/y", 7)), rmdir("x"), remove("x/y"), rmdir("x")), 5, files, ps("a", "a/d")},
		{"a manifest", plans(write(target("x/TARGETS", "\xff\n"))), 3, append(slices.Clone(files), target("x/TARGETS", "\xff\n")), ps("a", "a/d", "x")},
	} {
		w := begin(t, files...).journal(whole(c.steps...)...)
		answers(t, "P23.3: "+c.name, w.recovers(), api.OK)
		w.has("P23.3: "+c.name, c.files, c.dirs, nil, 1+c.count)
		answers(t, "P23.3: "+c.name, w.recovers(), api.OK) // twice is once
		w.has("P23.3: "+c.name, c.files, c.dirs, nil, 1+c.count)
	}
}

// TestRecoverOfRefusedSteps: the error ends the call, what was done ahead of it stays, and so does the journal.
func TestRecoverOfRefusedSteps(t *testing.T) {
	files := list(f("a/b", 1), f("c", 1))
	for _, c := range []struct {
		name  string
		steps []api.Step
		count int
		files []api.File
		dirs  []string
	}{
		{"Write of a directory", plans(write(f("a", 1))), 1, files, ps("a")},
		{"Write below a file", plans(write(f("c/d", 1))), 1, files, ps("a")},
		{"Write deep below a file", plans(write(f("c/d/e/g", 1))), 1, files, ps("a")},
		{"Mkdir below a file", plans(mkdir("c/d")), 1, files, ps("a")},
		{"Mkdir deep below a file", plans(mkdir("a/b/c/d")), 1, files, ps("a")},
		{"behind others", plans(remove("c"), mkdir("d/e"), write(f("d/e", 1)), remove("a/b")), 4, files[:1], ps("a", "d", "d/e")},
		{"behind a Write", plans(write(f("d/e", 1)), mkdir("d/e/g/h"), mkdir("z")), 3, append(slices.Clone(files), f("d/e", 1)), ps("a", "d")},
		{"behind a Mkdir", plans(mkdir("d/e"), write(f("d", 1)), remove("c")), 3, files, ps("a", "d", "d/e")},
		{"of two the first", plans(mkdir("c/x"), write(f("a", 1))), 1, files, ps("a")},
	} {
		b := whole(c.steps...)
		w := begin(t, files...).journal(b...)
		answers(t, "P23.3: "+c.name, w.recovers(), api.ErrTree)
		w.has("P23.3: "+c.name, c.files, c.dirs, b, 1+c.count)
		again := w.crashed(0)
		answers(t, "P23.3: "+c.name, again.recovers(), api.ErrTree)
		again.refuses(api.ErrTree, nil, nil) // the journal is not empty
		// stopped at each step, and at the one that is refused: that is told first
		for n := 1; n <= c.count; n++ {
			down := begin(t, files...).journal(b...).stop(n)
			answers(t, "P23.3: "+c.name, down.recovers(), api.ErrDown)
		}
		late := begin(t, files...).journal(b...).stop(c.count + 1)
		answers(t, "P23.3: "+c.name, late.recovers(), api.ErrTree)
	}
}

// TestRecoverOfStepsThatWereDone: the journal of a plan that was done is laid again, twice.
func TestRecoverOfStepsThatWereDone(t *testing.T) {
	for _, c := range [][2][]api.File{{exampleOld(), exampleNow()}, {exampleNow(), exampleOld()}, {wayOld(), wayNow()}, {wayNow(), wayOld()}, {nil, wayNow()}, {wayNow(), nil}} {
		steps := stepsOf(c[0], c[1])
		writes := 0
		for _, s := range steps {
			if s.Kind == 4 {
				writes++
			}
		}
		w := begin(t, c[1]...)
		for i := 1; i <= 2; i++ {
			w.journal(whole(steps...)...)
			answers(t, "P23.3", w.recovers(), api.OK)
			w.has("P23.3", c[1], dirsOf(c[1]), nil, i*(writes+2))
		}
		// and to the tree that the plan begins with
		w = begin(t, c[0]...).journal(whole(steps...)...)
		answers(t, "P23.3", w.recovers(), api.OK)
		w.has("P23.3", c[1], dirsOf(c[1]), nil, len(steps)+2)
	}
}

// TestRecoverOfRecordsThatMayNotBe: such a journal is not committed.
func TestRecoverOfRecordsThatMayNotBe(t *testing.T) {
	for _, s := range noSteps() {
		if s.Kind < 0 || s.Kind > 255 || s.Kind == 4 && s.File.Path != s.Path || s.Kind != 4 && s.File != (api.File{}) {
			continue
		}
		w := begin(t, exampleOld()...).journal(whole(remove("c"), s)...)
		answers(t, fmt.Sprintf("P23.3: %.200q", fmt.Sprint(s)), w.recovers(), api.OK)
		w.has("P23.3", exampleOld(), ps("a"), nil, 2)
	}
}

// TestRecoverOfDrawnRecords: any steps in any order, on any tree, stopped somewhere.
func TestRecoverOfDrawnRecords(t *testing.T) {
	r := rand.New(rand.NewSource(4))
	told := map[api.Errno]int{}
	for range 6000 {
		w, _, _ := someWorld(t, r, r.Intn(7), 0, r.Intn(4))
		steps := drawnSteps(r, r.Intn(12))
		if r.Intn(2) == 0 {
			steps = append(steps, stepsOf(w.m.told().files, someSnapshot(r, 4, 3))...)
		}
		w.journal(whole(steps...)...)
		if r.Intn(3) == 0 {
			w.stop(r.Intn(20))
		}
		for range 3 {
			told[w.recovers()]++
			w = w.crashed(0)
		}
	}
	if told[api.OK] < 1000 || told[api.ErrTree] < 1000 || told[api.ErrDown] < 300 {
		t.Errorf("%v", told)
	}
}

// TestRecoverOfManySteps: no step looks through the whole tree.
func TestRecoverOfManySteps(t *testing.T) {
	var steps []api.Step
	for i := range 30000 {
		p := fmt.Sprintf("%02d/%d", i%50, i)
		steps = append(steps, mkdir(p), write(f(p+"/x/y", i)), write(f(p+"/z", i)), remove(p+"/z"), rmdir(p+"/x"))
	}
	w := begin(t)
	w.x.Append(whole(steps...))
	if e := journal.Recover(w.x); e != api.OK || len(w.x.Files()) != 30000 || len(w.x.Dirs()) != 50+60000 || w.x.Steps() != 1+50+30000*5+1 {
		t.Errorf("P23.3: %d, %d files, %d directories, %d steps", e, len(w.x.Files()), len(w.x.Dirs()), w.x.Steps())
	}
}
