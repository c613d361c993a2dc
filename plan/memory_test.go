package plan_test

import (
	"math/rand"
	"slices"
	"testing"

	"copse/api"
	"copse/plan"
)

// P22.5

var (
	mark     = api.File{Path: "mark", Text: "mark", Blob: -7, Size: -7}
	markStep = api.Step{Kind: 77, Path: "mark", File: mark}
)

// withRoom gives a list in front of marks, and all of it.
func withRoom[T any](items []T, marked T) (l, whole []T) {
	whole = append(slices.Clone(items), marked, marked, marked, marked)
	return whole[:len(items)], whole
}

// fill writes a list over, its spare room too.
func fill[T any](l []T, with T) {
	for i := range l[:cap(l)] {
		l[:cap(l)][i] = with
	}
}

// worlds are files, old and now.
func worlds() [][3][]api.File {
	out := [][3][]api.File{
		{nil, nil, nil}, {exampleOld(), exampleOld(), exampleNow()}, {exampleNow(), exampleOld(), exampleNow()}, {nil, exampleOld(), exampleNow()},
		{exampleOld(), exampleNow(), exampleOld()}, {wayNow(), wayOld(), wayNow()}, {wayOld(), nil, wayNow()}, {list(f("z", 1), f("a/b", 2), f("", 1), f("a/b", 3)), wayOld(), nil},
		{exampleOld(), list(f("b", 1), f("a", 1)), exampleNow()}, {exampleOld(), exampleOld(), list(f("/", 1))}, {exampleOld(), exampleOld(), exampleOld()},
	}
	r := rand.New(rand.NewSource(5))
	for range 200 {
		old := someSnapshot(r, r.Intn(8), 3)
		out = append(out, [3][]api.File{spoiled(r, turned(r, old, 2, 3), r.Intn(4)), old, turned(r, old, r.Intn(6), 3)})
	}
	return out
}

func TestListsStay(t *testing.T) {
	for _, w := range worlds() {
		var l, whole, was [3][]api.File
		for i := range w {
			l[i], whole[i] = withRoom(w[i], mark)
			was[i] = slices.Clone(whole[i])
		}
		stays := func(call string) {
			t.Helper()
			for i := range whole {
				if !slices.Equal(whole[i], was[i]) {
					t.Fatalf("P22.5: %s changed what was handed in: %+v, it was %+v", call, whole[i], was[i])
				}
			}
		}
		steps, _ := plan.Make(l[1], l[2])
		stays("Make")
		dirty, _ := plan.Dirty(l[0], l[1], l[2])
		stays("Dirty")
		wantSteps, wantDirty := slices.Clone(steps), slices.Clone(dirty)

		// what is answered is written over and lengthened; no call stands between that and the look at the other answer
		again, e := plan.Make(l[1], l[2])
		fill(steps, markStep)
		steps = append(steps, markStep)
		stays("writing over Make's answer")
		if !slices.Equal(again, wantSteps) {
			t.Fatalf("P22.5: two answers share memory: %+v, want %+v", again, wantSteps)
		}
		dirtyAgain, _ := plan.Dirty(l[0], l[1], l[2])
		fill(dirty, "mark")
		dirty = append(dirty, "mark")
		stays("writing over Dirty's answer")
		if !slices.Equal(dirtyAgain, wantDirty) || !slices.Equal(again, wantSteps) {
			t.Fatalf("P22.5: two answers share memory: %q, %+v, want %q, %+v", dirtyAgain, again, wantDirty, wantSteps)
		}
		if third, _ := plan.Make(l[1], l[2]); !slices.Equal(third, wantSteps) {
			t.Fatalf("P22.5: an answer was kept: %+v, want %+v", third, wantSteps)
		}
		if third, _ := plan.Dirty(l[0], l[1], l[2]); !slices.Equal(third, wantDirty) {
			t.Fatalf("P22.5: an answer was kept: %q, want %q", third, wantDirty)
		}

		// what was handed in is written over
		for i := range whole {
			fill(whole[i], api.File{Path: "other"})
		}
		if !slices.Equal(again, wantSteps) || !slices.Equal(dirtyAgain, wantDirty) {
			t.Fatalf("P22.5: an answer hangs on what was handed in: %+v, %q, want %+v, %q", again, dirtyAgain, wantSteps, wantDirty)
		}
		if e != api.OK {
			continue
		}
		played(t, w[1], again, w[2])
	}
}

// played plays steps out of a list with room, and writes them over.
func played(t *testing.T, old []api.File, steps []api.Step, now []api.File) {
	t.Helper()
	l, whole := withRoom(steps, markStep)
	was := slices.Clone(whole)
	x := grown(t, old)
	plays(t, "P22.5", x, api.OK, len(l), l...)
	if !slices.Equal(whole, was) {
		t.Fatalf("P22.5: Play changed what was handed in: %+v, it was %+v", whole, was)
	}
	fill(whole, markStep)
	holds(t, "P22.5", x, now, rising(dirsOf(now)))
}

// TestSpareRoomIsNotLookedAt: what stands behind a list is none of it.
func TestSpareRoomIsNotLookedAt(t *testing.T) {
	whole := list(f("a", 1), f("b", 1), f("c", 1), f("d", 1))
	for i := range len(whole) + 1 {
		for j := range len(whole) + 1 {
			for k := range len(whole) + 1 {
				got, e := plan.Make(whole[:i], whole[:j])
				if want := stepsOf(slices.Clone(whole[:i]), slices.Clone(whole[:j])); !slices.Equal(got, want) || e != api.OK {
					t.Errorf("P22.5: Make(%d, %d): %+v, %d, want %+v", i, j, got, e, want)
				}
				dirties(t, whole[:k], whole[:i], whole[:j])
				dirties(t, whole[k:], whole[i:], whole[j:])
			}
		}
	}
	steps := plans(mkdir("a"), mkdir("b"), mkdir("c"))
	x := grown(t, nil)
	plays(t, "P22.5", x, api.OK, 1, steps[:1]...)
	holds(t, "P22.5", x, nil, ps("a"))
}

// TestOneListForAll: the same memory is handed in for each list, and once with another's spare room.
func TestOneListForAll(t *testing.T) {
	for _, w := range worlds() {
		if fault(w[1], w[2]) != api.OK {
			continue
		}
		whole := slices.Concat(w[1], w[2], w[0])
		old, now, files := whole[:len(w[1])], whole[len(w[1]):len(w[1])+len(w[2])], whole[len(w[1])+len(w[2]):]
		was := slices.Clone(whole)
		makes(t, old, now)
		makes(t, now, old)
		makes(t, old, old)
		dirties(t, files, old, now)
		dirties(t, old, old, now)
		dirties(t, now, old, now)
		dirties(t, whole, old, now)
		dirties(t, old, old, old)
		if !slices.Equal(whole, was) {
			t.Fatalf("P22.5: what was handed in was changed: %+v, it was %+v", whole, was)
		}
	}
}

// TestErrorsHaveNothingBesideThem: with an error the list is the zero value.
func TestErrorsHaveNothingBesideThem(t *testing.T) {
	for _, c := range noSnapshots() {
		for _, pair := range [][2][]api.File{{c.l, exampleNow()}, {exampleOld(), c.l}} {
			if l, e := plan.Make(pair[0], pair[1]); l != nil || e != c.e {
				t.Errorf("P22.1: %+v, %d", l, e)
			}
			if l, e := plan.Dirty(pair[0], pair[0], pair[1]); l != nil || e != c.e {
				t.Errorf("P22.2: %q, %d", l, e)
			}
		}
	}
}
