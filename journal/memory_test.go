package journal_test

import (
	"bytes"
	"math/rand"
	"slices"
	"testing"

	"copse/api"
	"copse/journal"
)

// P23.4

var (
	mark     = api.File{Path: "mark", Text: "mark", Blob: -7, Size: -7}
	markStep = api.Step{Kind: 77, Path: "mark", File: mark}
)

// withRoom gives a list in front of marks, and all of it.
func withRoom[T any](items []T, marked T) (l, all []T) {
	all = append(slices.Clone(items), marked, marked, marked, marked)
	return all[:len(items)], all
}

// fill writes a list over, its spare room too.
func fill[T any](l []T, with T) {
	for i := range l[:cap(l)] {
		l[:cap(l)][i] = with
	}
}

// stays: is a list what it was, with its spare room?
func stays[T comparable](t *testing.T, call string, all, was []T) {
	t.Helper()
	if !slices.Equal(all, was) {
		t.Fatalf("P23.4: %s changed what was handed in: %+v, it was %+v", call, all, was)
	}
}

func TestRecordsMemory(t *testing.T) {
	for _, steps := range append(someSteps(), plans(mkdir("a"), markStep), plans(markStep)) {
		l, all := withRoom(steps, markStep)
		was := slices.Clone(all)
		first, e := journal.Record(l)
		stays(t, "Record", all, was)
		want := slices.Clone(first)
		again, e2 := journal.Record(l)
		if e != e2 || !bytes.Equal(again, want) {
			t.Fatalf("P23.4: Record(%+v): % x, %d, and % x, %d", l, want, e, again, e2)
		}
		other, _ := journal.Record(plans(mkdir("other")))
		fill(first, 0xee)
		first = append(first, 0xee)
		stays(t, "writing over Record's answer", all, was)
		if !bytes.Equal(again, want) || !bytes.Equal(other, laid(mkdir("other"))) {
			t.Fatalf("P23.4: two answers share memory: % x, want % x", again, want)
		}
		if third, _ := journal.Record(l); !bytes.Equal(third, want) {
			t.Fatalf("P23.4: an answer was kept: % x, want % x", third, want)
		}
		fill(all, markStep)
		if !bytes.Equal(again, want) {
			t.Fatalf("P23.4: an answer hangs on what was handed in: % x, want % x", again, want)
		}
	}
}

func TestReadsMemory(t *testing.T) {
	var journals [][]byte
	for _, steps := range someSteps() {
		journals = append(journals, whole(steps...), laid(steps...), append(whole(steps...), 1))
	}
	for _, b := range append(journals, nil, []byte{1, 2, 3}, whole(remove("/"))) {
		l, all := withRoom(b, 0xdd)
		was := slices.Clone(all)
		first, ok := journal.Read(l)
		stays(t, "Read", all, was)
		want := slices.Clone(first)
		again, ok2 := journal.Read(l)
		if ok != ok2 || !slices.Equal(again, want) {
			t.Fatalf("P23.4: Read(% x): %+v, %v, and %+v, %v", l, want, ok, again, ok2)
		}
		fill(first, markStep)
		first = append(first, markStep)
		stays(t, "writing over Read's answer", all, was)
		if !slices.Equal(again, want) {
			t.Fatalf("P23.4: two answers share memory: %+v, want %+v", again, want)
		}
		if third, _ := journal.Read(l); !slices.Equal(third, want) {
			t.Fatalf("P23.4: an answer was kept: %+v, want %+v", third, want)
		}
		fill(all, 0xee)
		if !slices.Equal(again, want) {
			t.Fatalf("P23.4: an answer hangs on what was handed in: %+v, want %+v", again, want)
		}
	}
}

// TestSpareRoomIsNotRead: what stands behind a list is none of it.
func TestSpareRoomIsNotRead(t *testing.T) {
	steps := plans(remove("a"), write(f("b", 1)), mkdir("c"), rmdir("d"))
	for i := range len(steps) + 1 {
		records(t, laid(slices.Clone(steps[:i])...), steps[:i]...)
		records(t, laid(slices.Clone(steps[i:])...), steps[i:]...)
	}
	b := whole(steps...)
	for i := range b {
		reads(t, b[:i], false)
	}
	files := list(f("a", 1), f("b", 1), f("c", 1), f("d", 1))
	for i := range len(files) + 1 {
		for j := range len(files) + 1 {
			w := begin(t, files[:i]...)
			answers(t, "P23.4", w.goes(files[:i], files[:j]), api.OK)
			w.wentWhole("P23.4", files[:i], files[:j], stepsOf(files[:i], files[:j]))
			w = begin(t, files[i:]...)
			answers(t, "P23.4", w.goes(files[i:], files[j:]), api.OK)
			w.wentWhole("P23.4", files[i:], files[j:], stepsOf(files[i:], files[j:]))
		}
	}
}

// TestGoesMemory: what Go is handed stays, and neither the tree nor its journal hangs on it then.
func TestGoesMemory(t *testing.T) {
	r := rand.New(rand.NewSource(8))
	for range 1500 {
		w, old, now := someWorld(t, r, r.Intn(7), r.Intn(6), r.Intn(3))
		if r.Intn(8) == 0 {
			old = append(slices.Clone(old), f("", 1))
		}
		if r.Intn(3) == 0 {
			w.stop(1 + r.Intn(9))
		}
		l, allOld := withRoom(old, mark)
		m, allNow := withRoom(now, mark)
		wasOld, wasNow := slices.Clone(allOld), slices.Clone(allNow)
		w.goes(l, m)
		stays(t, "Go", allOld, wasOld)
		stays(t, "Go", allNow, wasNow)
		is := ask(w.x)
		left := w.crashed(r.Intn(99))
		fill(allOld, f("other", 1))
		fill(allNow, f("other", 2))
		if !ask(w.x).is(is) {
			t.Fatalf("P23.4: a tree hangs on what was handed in: %+v, want %+v", ask(w.x), is)
		}
		left.recovers()

		// what the tree answers is written over: it is the tree's no more
		for _, y := range []*twin{w, left} {
			fill(y.x.Files(), mark)
			fill(y.x.Dirs(), "mark")
			fill(y.x.Journal(), 0xee)
			y.holds("P23.4", is)
		}
	}
}

// TestOneListForBoth: the same memory is handed in for both views, and once with another's spare room.
func TestOneListForBoth(t *testing.T) {
	r := rand.New(rand.NewSource(9))
	for range 500 {
		_, old, now := someWorld(t, r, r.Intn(7), r.Intn(6), 0)
		both := slices.Concat(old, now)
		was := slices.Clone(both)
		a, b := both[:len(old)], both[len(old):]
		w := begin(t, a...)
		answers(t, "P23.4", w.goes(a, b), api.OK)
		answers(t, "P23.4", w.goes(b, b), api.OK)
		answers(t, "P23.4", w.goes(b, a), api.OK)
		answers(t, "P23.4", w.goes(a, a), api.OK)
		w.wentWhole("P23.4", old, old, nil)
		stays(t, "Go", both, was)
	}
}

// TestTreesAreApart: what is done to one tree is not done to another, and nothing is kept between the calls.
func TestTreesAreApart(t *testing.T) {
	old, now := exampleOld(), exampleNow()
	one, two := begin(t, old...), begin(t, now...).journal(whole(stepsOf(now, old)...)...)
	three := one.crashed(0).stop(3)
	answers(t, "P23.4", three.goes(old, now), api.ErrDown)
	answers(t, "P23.4", one.goes(old, now), api.OK)
	answers(t, "P23.4", two.recovers(), api.OK)
	three = three.crashed(0)
	one.has("P23.4", now, ps("d", "d/e"), nil, 9)
	two.has("P23.4", old, ps("a"), nil, 1+7)
	three.has("P23.4", old, ps("a"), whole(exampleSteps()...), 0)
	answers(t, "P23.4", three.recovers(), api.OK)
	one.has("P23.4", now, ps("d", "d/e"), nil, 9)
}
