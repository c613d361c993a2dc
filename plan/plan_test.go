package plan_test

import (
	"fmt"
	"math"
	"math/rand"
	"slices"
	"strings"
	"testing"

	"copse/api"
	"copse/plan"
)

// The chapter's examples.

func exampleOld() []api.File { return list(f("a/b/y", 0), f("a/x", 1), f("c", 0)) }
func exampleNow() []api.File { return list(f("a/x", 2), f("c/d", 0)) }

func TestExample1(t *testing.T) {
	old, now := exampleOld(), exampleNow()
	want := []api.Step{
		{Kind: api.Delete, Path: "c"},
		{Kind: api.Delete, Path: "a/b/y"},
		{Kind: api.Rmdir, Path: "a/b"},
		{Kind: api.Mkdir, Path: "c"},
		{Kind: api.Write, Path: "a/x", File: f("a/x", 2)},
		{Kind: api.Write, Path: "c/d", File: f("c/d", 0)},
	}
	if got, e := plan.Make(old, now); !slices.Equal(got, want) || e != api.OK {
		t.Errorf("P22.1: %+v, %d, want %+v", got, e, want)
	}
	for _, l := range [][]api.File{nil, {}, now, old} {
		if got, e := plan.Make(l, l); len(got) != 0 || e != api.OK {
			t.Errorf("P22.1: Make(%+v, itself): %+v, %d", l, got, e)
		}
	}
	makes(t, old, now)
}

func TestExample2(t *testing.T) {
	old, now := exampleOld(), exampleNow()
	for _, c := range []struct {
		files []api.File
		want  []string
	}{
		{old, nil},
		{list(f("a/b/y", 0), f("a/x", 7), f("c", 0)), ps("a/x")},
		{list(f("a/b/y", 0), f("a/x", 1), f("a/z", 0), f("c", 0)), nil},
		{list(f("a/b/y", 0), f("a/b/z", 0), f("a/x", 1), f("c", 0)), ps("a/b/z")},
		{list(f("a/b/y", 0), f("a/x", 1), f("c/e", 0)), ps("c", "c/e")},
		{list(f("a/x", 1), f("c", 0)), ps("a/b/y")},
		{list(f("a/b/y", 0), f("a/x", 1), f("c", 0), f("q", 0)), nil},
		{list(f("a", 0), f("c", 0)), ps("a", "a/b/y", "a/x")},
	} {
		if got, e := plan.Dirty(c.files, old, now); !slices.Equal(got, c.want) || e != api.OK {
			t.Errorf("P22.2: Dirty(%+v): %q, %d, want %q", c.files, got, e, c.want)
		}
		dirties(t, c.files, old, now)
	}
}

func TestExample3(t *testing.T) {
	x := grown(t, exampleOld())
	plays(t, "P22.3", x, api.ErrTree, 0, api.Step{Kind: 9})
	plays(t, "P22.3", x, api.OK, 0)
	holds(t, "P22.3", x, exampleOld(), ps("a", "a/b"))
}

// P22.1

// badList is a list that is no snapshot, and what snap.Valid answers of it.
type badList struct {
	l []api.File
	e api.Errno
}

func noSnapshots() []badList {
	var out []badList
	add := func(e api.Errno, l ...api.File) { out = append(out, badList{l, e}) }
	for _, p := range ps("", "/", "/a", "a/", "a//b", ".", "a/..", "...", "a b", "é", strings.Repeat("c", 33), strings.Repeat("d/", 12)+"f") {
		add(api.ErrPath, f(p, 1))
		add(api.ErrPath, f("b", 1), f(p, 1), f("a", 1))
		add(api.ErrPath, api.File{Path: "b", Size: -1}, f(p, 1))
	}
	add(api.ErrPath, append(numbered(513), f("", 1))...)
	add(api.ErrSnap, f("b", 1), f("a", 1))
	add(api.ErrSnap, f("a", 1), f("a", 1))
	add(api.ErrSnap, f("a", 1), f("a", 2))
	add(api.ErrSnap, f("a", 1), f("a/b", 1))
	add(api.ErrSnap, f("a/b/c", 1), f("a", 1))
	add(api.ErrSnap, f("a-", 1), f("a/b", 1))
	add(api.ErrSnap, f("b", 1), api.File{Path: "c", Text: "x", Size: 1})
	add(api.ErrSnap, api.File{Path: "a", Blob: -1})
	add(api.ErrSnap, api.File{Path: "a", Blob: 1<<60 + 1})
	add(api.ErrSnap, api.File{Path: "a", Size: -1})
	add(api.ErrSnap, api.File{Path: "a", Size: 1<<62 + 1})
	add(api.ErrSnap, api.File{Path: "a/TARGETS", Text: "x", Size: 2})
	add(api.ErrSnap, api.File{Path: "TARGETS", Text: "x", Size: 1, Blob: 1})
	add(api.ErrSnap, numbered(513)...)
	return out
}

// numbered are n files, rising, in some directories.
func numbered(n int) []api.File {
	var l []api.File
	for i := range n {
		l = append(l, f(fmt.Sprintf("n%02d/%02d", i/64, i%64), i))
	}
	return l
}

// refused: both calls are answered an error, and nothing beside it.
func refused(t *testing.T, want api.Errno, old, now []api.File) {
	t.Helper()
	if l, e := plan.Make(old, now); len(l) != 0 || e != want {
		t.Errorf("P22.1: Make(%+v, %+v): %+v, %d, want %d", old, now, l, e, want)
	}
	for _, files := range [][]api.File{nil, old, now, exampleOld(), list(f("", 1))} {
		if l, e := plan.Dirty(files, old, now); len(l) != 0 || e != want {
			t.Errorf("P22.2: Dirty(%+v, %+v, %+v): %q, %d, want %d", files, old, now, l, e, want)
		}
	}
}

func TestNoSnapshots(t *testing.T) {
	bad := noSnapshots()
	for _, c := range bad {
		if e := snapFault(c.l); e != c.e {
			t.Fatalf("%+v: %d, want %d", c.l, e, c.e)
		}
		for _, good := range [][]api.File{nil, exampleOld(), exampleNow(), numbered(512)} {
			refused(t, c.e, c.l, good)
			refused(t, c.e, good, c.l)
		}
		for _, other := range bad { // old's is the answer
			refused(t, c.e, c.l, other.l)
		}
	}
}

func TestMake(t *testing.T) {
	for _, c := range []struct {
		old, now []api.File
		want     []api.Step
	}{
		{nil, nil, nil},
		{nil, list(f("a", 1)), plans(write(f("a", 1)))},
		{nil, list(f("a/b", 1), f("c", 2)), plans(mkdir("a"), write(f("a/b", 1)), write(f("c", 2)))},
		{list(f("a", 1)), nil, plans(remove("a"))},
		{list(f("a/b", 1), f("c", 2)), nil, plans(remove("c"), remove("a/b"), rmdir("a"))},
		{nil, bare("TARGETS", "a"), plans(write(api.File{Path: "TARGETS"}), write(api.File{Path: "a"}))},
		{bare("TARGETS", "a"), bare("TARGETS", "a"), nil},
		// each kind alone
		{list(f("a/x", 1), f("a/y", 1)), list(f("a/y", 1)), plans(remove("a/x"))},
		{list(f("a/x", 1)), list(f("a/x", 1), f("a/y", 1)), plans(write(f("a/y", 1)))},
		{list(f("a/x", 1), f("b", 1)), list(f("b", 1)), plans(remove("a/x"), rmdir("a"))},
		{list(f("b", 1)), list(f("a/x", 1), f("b", 1)), plans(mkdir("a"), write(f("a/x", 1)))},
		// otherwise, by one field alone
		{list(f("a/x", 1)), list(f("a/x", 2)), plans(write(f("a/x", 2)))},
		{list(api.File{Path: "a", Blob: 3, Size: 4}), list(api.File{Path: "a", Blob: 3, Size: 5}), plans(write(api.File{Path: "a", Blob: 3, Size: 5}))},
		{list(api.File{Path: "a", Blob: 3, Size: 4}), list(api.File{Path: "a", Blob: 4, Size: 4}), plans(write(api.File{Path: "a", Blob: 4, Size: 4}))},
		{list(api.File{Path: "a", Blob: 3, Size: 4}), list(api.File{Path: "a", Blob: 4, Size: 3}), plans(write(api.File{Path: "a", Blob: 4, Size: 3}))},
		{list(api.File{Path: "a", Size: 1 << 62}), list(api.File{Path: "a", Size: 1<<62 - 1}), plans(write(api.File{Path: "a", Size: 1<<62 - 1}))},
		{list(api.File{Path: "a", Blob: 1 << 60}), list(api.File{Path: "a"}), plans(write(api.File{Path: "a"}))},
		{list(target("TARGETS", "ab")), list(target("TARGETS", "ba")), plans(write(target("TARGETS", "ba")))},
		{list(target("a/TARGETS", "ab")), list(target("a/TARGETS", "")), plans(write(target("a/TARGETS", "")))},
		{list(target("a/TARGETS", "\xff")), list(target("a/TARGETS", "\xff")), nil},
		// one gives way to the other
		{list(f("a", 1)), list(f("a/b", 1)), plans(remove("a"), mkdir("a"), write(f("a/b", 1)))},
		{list(f("a/b", 1)), list(f("a", 1)), plans(remove("a/b"), rmdir("a"), write(f("a", 1)))},
		{list(f("a/b", 1), f("a/c", 1)), list(f("a/b/d/e", 1), f("a/c", 1)), plans(remove("a/b"), mkdir("a/b"), mkdir("a/b/d"), write(f("a/b/d/e", 1)))},
		{list(f("a/b/d/e", 1), f("a/c", 1)), list(f("a", 2)), plans(remove("a/c"), remove("a/b/d/e"), rmdir("a/b/d"), rmdir("a/b"), rmdir("a"), write(f("a", 2)))},
		{list(f("a", 1), f("b/c", 1)), list(f("a/c", 1), f("b", 1)), plans(remove("b/c"), remove("a"), rmdir("b"), mkdir("a"), write(f("a/c", 1)), write(f("b", 1)))},
		{list(target("TARGETS", "x")), list(f("TARGETS/x", 1)), plans(remove("TARGETS"), mkdir("TARGETS"), write(f("TARGETS/x", 1)))},
		// a directory stays as long as one file of now is below it
		{list(f("a/b/c/x", 1)), list(f("a/b/y", 1)), plans(remove("a/b/c/x"), rmdir("a/b/c"), write(f("a/b/y", 1)))},
		{list(f("a/b/c/x", 1)), list(f("a/b/d/x", 1)), plans(remove("a/b/c/x"), rmdir("a/b/c"), mkdir("a/b/d"), write(f("a/b/d/x", 1)))},
		{list(f("a/b/c", 1)), list(f("a/d/c", 1)), plans(remove("a/b/c"), rmdir("a/b"), mkdir("a/d"), write(f("a/d/c", 1)))},
		{list(f("a/b", 1)), list(f("b/a", 1)), plans(remove("a/b"), rmdir("a"), mkdir("b"), write(f("b/a", 1)))},
		{list(f("ab/x", 1)), list(f("a/x", 1)), plans(remove("ab/x"), rmdir("ab"), mkdir("a"), write(f("a/x", 1)))},
	} {
		if got, e := plan.Make(c.old, c.now); !slices.Equal(got, c.want) || e != api.OK {
			t.Errorf("P22.1: Make(%+v, %+v): %+v, %d, want %+v", c.old, c.now, got, e, c.want)
		}
		makes(t, c.old, c.now)
		makes(t, c.now, c.old)
	}
}

// TestMakeInOrder: not in that of bytes: '-' and '.' are ahead of '/', '0' and all letters behind it.
func TestMakeInOrder(t *testing.T) {
	there := bare("a/-/x", "a/b/c", "a/b-", "a/b.c/x", "a/b0/x", "a-/x", "a./x", "a0/x", "aA/x", "a_/x", "ab/x", "b")
	if e := snapFault(there); e != api.OK {
		t.Fatalf("%d", e)
	}
	dirs := ps("a", "a/-", "a/b", "a/b.c", "a/b0", "a-", "a.", "a0", "aA", "a_", "ab")
	var come, goDirs []api.Step
	for _, d := range dirs {
		come = append(come, mkdir(d))
		goDirs = append(goDirs, rmdir(d))
	}
	slices.Reverse(goDirs)
	var gone []api.Step
	for i := range there {
		come = append(come, write(there[i]))
		gone = append(gone, remove(there[len(there)-1-i].Path))
	}
	gone = append(gone, goDirs...)
	if got, e := plan.Make(nil, there); !slices.Equal(got, come) || e != api.OK {
		t.Errorf("P22.1: %+v, %d, want %+v", got, e, come)
	}
	if got, e := plan.Make(there, nil); !slices.Equal(got, gone) || e != api.OK {
		t.Errorf("P22.1: %+v, %d, want %+v", got, e, gone)
	}
	for i := range there { // one of them alone
		makes(t, there, there[i:i+1])
		makes(t, there[i:i+1], there)
		makes(t, there[:i], there[i:])
		makes(t, there[i:], there[:i])
	}
}

func TestMakeOfAllKinds(t *testing.T) {
	old := list(f("a", 1), f("b/x", 1), f("b-/c/d/y", 1), f("b-/c/z", 1), f("d/e", 1), f("d/g", 1), f("s/t", 1))
	now := list(f("a/b/c", 1), f("a-", 1), f("b", 1), f("d/e", 2), f("d/g", 1), f("d/h/i/j", 1), f("s/t/u", 1))
	want := plans(
		remove("s/t"), remove("b-/c/z"), remove("b-/c/d/y"), remove("b/x"), remove("a"),
		rmdir("b-/c/d"), rmdir("b-/c"), rmdir("b-"), rmdir("b"),
		mkdir("a"), mkdir("a/b"), mkdir("d/h"), mkdir("d/h/i"), mkdir("s/t"),
		write(f("a/b/c", 1)), write(f("a-", 1)), write(f("b", 1)), write(f("d/e", 2)), write(f("d/h/i/j", 1)), write(f("s/t/u", 1)),
	)
	if got, e := plan.Make(old, now); !slices.Equal(got, want) || e != api.OK {
		t.Errorf("P22.1: %+v, %d, want %+v", got, e, want)
	}
	for _, s := range makes(t, old, now) {
		if s.Kind != api.Write && s.File != (api.File{}) || s.Kind == api.Write && s.File.Path != s.Path {
			t.Errorf("P22.1: %+v", s)
		}
	}
	thereAndBack(t, old, now)
}

// TestMakeDeepBelow: directories at the limits of depth and length go and come.
func TestMakeDeepBelow(t *testing.T) {
	deep := strings.Repeat("d/", 11) + "f"
	long := strings.Repeat(strings.Repeat("e", 29)+"/", 3) + strings.Repeat("e", 30)
	old, now := list(f(deep, 1)), list(f(long, 1), f(strings.Repeat("h", 32), 1))
	if l := makes(t, old, now); len(l) != 1+11+3+2 || l[1] != rmdir(deep[:21]) || l[11] != rmdir("d") || l[12] != mkdir(long[:29]) {
		t.Errorf("P22.1: %+v", l)
	}
	thereAndBack(t, old, now)
	thereAndBack(t, nil, old)
	thereAndBack(t, nil, now)
	thereAndBack(t, old, list(f("d/d/d/d/d/d/d/d/d/d/d", 1)))
	thereAndBack(t, old, list(f("d/d/d/d/d/d", 1)))
	thereAndBack(t, old, list(f("d", 1)))
	thereAndBack(t, old, list(f("d/d/d/d/d/d/d/d/d/d/e/f", 1)))
	thereAndBack(t, old, list(f("d/d/e/d/d/d/d/d/d/d/d/f", 1)))
}

// TestMakeOfFullSnapshots has as many files as may be, with as many directories.
func TestMakeOfFullSnapshots(t *testing.T) {
	var old, now []api.File
	for i := range 512 {
		old = append(old, f(fmt.Sprintf("a%03d/b/c/d/e/f/g/h/i/j/k/l", i), i))
		now = append(now, f(fmt.Sprintf("a%03d/b/c/d/e/f/g/h-/i/j/k/l", i+256), i+256))
	}
	l, e := plan.Make(old, now)
	if len(l) != 512+256*11+256*4+256*11+256*4+512 || e != api.OK {
		t.Errorf("P22.1: %d steps, %d", len(l), e)
	}
	thereAndBack(t, old, now)
	if l, e := plan.Make(old, old); len(l) != 0 || e != api.OK {
		t.Errorf("P22.1: %d steps, %d", len(l), e)
	}
	files := slices.Concat(now, old, list(f("a", 1), f("a000", 1), f("a767/b/c/d/e/f/g", 1), f("a767/b/c", 1), f("a767/c", 1)))
	dirty, e := plan.Dirty(files, old, now)
	if len(dirty) != 512+3 || dirty[0] != "a000" || e != api.OK {
		t.Errorf("P22.2: %q, %d", dirty, e)
	}
}

// P22.3

func TestPlayOfEachKind(t *testing.T) {
	old := list(f("a/b/y", 1), f("a/x", 1), f("c", 1))
	x := grown(t, old)
	plays(t, "P22.3", x, api.OK, 1, mkdir("d"))
	holds(t, "P22.3", x, old, ps("a", "a/b", "d"))
	plays(t, "P22.3", x, api.OK, 1, rmdir("d"))
	holds(t, "P22.3", x, old, ps("a", "a/b"))
	plays(t, "P22.3", x, api.OK, 1, write(f("a/b/y", 2)))
	holds(t, "P22.3", x, list(f("a/b/y", 2), f("a/x", 1), f("c", 1)), ps("a", "a/b"))
	plays(t, "P22.3", x, api.OK, 1, write(f("a/b/z", 3)))
	holds(t, "P22.3", x, list(f("a/b/y", 2), f("a/b/z", 3), f("a/x", 1), f("c", 1)), ps("a", "a/b"))
	plays(t, "P22.3", x, api.OK, 1, remove("c"))
	holds(t, "P22.3", x, list(f("a/b/y", 2), f("a/b/z", 3), f("a/x", 1)), ps("a", "a/b"))
	plays(t, "P22.3", x, api.OK, 7, remove("a/b/y"), remove("a/b/z"), rmdir("a/b"), write(f("a/b", 4)), mkdir("c"), mkdir("c/d"), write(target("c/d/TARGETS", "xyz")))
	holds(t, "P22.3", x, list(f("a/b", 4), f("a/x", 1), target("c/d/TARGETS", "xyz")), ps("a", "c", "c/d"))
	if len(x.Journal()) != 0 {
		t.Errorf("P22.3: the journal is %d", x.Journal())
	}
}

// TestPlayByPathAndByFile: a step of Write by its File alone, the others by their Path alone.
func TestPlayByPathAndByFile(t *testing.T) {
	for _, p := range ps("", "/", "a", "a/b", "q/q", "elsewhere", "..") {
		x := grown(t, list(f("a/b", 1)))
		plays(t, "P22.3", x, api.OK, 1, api.Step{Kind: api.Write, Path: p, File: f("a/c", 2)})
		holds(t, "P22.3", x, list(f("a/b", 1), f("a/c", 2)), ps("a"))
		plays(t, "P22.3", x, api.ErrTree, 1, api.Step{Kind: api.Write, Path: p, File: f("a/b/c", 2)})
		plays(t, "P22.3", x, api.ErrPath, 1, api.Step{Kind: api.Write, Path: p})
		plays(t, "P22.3", x, api.ErrSnap, 1, api.Step{Kind: api.Write, Path: p, File: api.File{Path: "a/c", Size: -1}})
		holds(t, "P22.3", x, list(f("a/b", 1), f("a/c", 2)), ps("a"))
		for _, file := range []api.File{f(p, 3), f("a/b", 3), {Path: p, Text: "x", Blob: -1}} {
			x := grown(t, list(f("a/b", 1), f("b/c", 1)))
			plays(t, "P22.3", x, api.OK, 4,
				api.Step{Kind: api.Delete, Path: "b/c", File: file}, api.Step{Kind: api.Rmdir, Path: "b", File: file},
				api.Step{Kind: api.Mkdir, Path: "c", File: file}, api.Step{Kind: api.Mkdir, Path: "c/d", File: file})
			holds(t, "P22.3", x, list(f("a/b", 1)), ps("a", "c", "c/d"))
		}
	}
}

// otherKinds are near the kinds that there are, and far; some are as these in their last bytes.
func otherKinds() []int {
	l := []int{0, 5, 6, 9, math.MinInt, math.MinInt + 1, math.MaxInt, math.MaxInt - 1}
	for k := 1; k <= 4; k++ {
		l = append(l, -k, k+4, k<<3, k+1<<8, k+1<<16, k+1<<31, k+1<<32, k+1<<62, k+math.MinInt, '0'+k)
	}
	return l
}

func TestPlayOfAnotherKind(t *testing.T) {
	for _, kind := range otherKinds() {
		for _, s := range []api.Step{
			{Kind: kind}, {Kind: kind, Path: "c"}, {Kind: kind, Path: "a/b"}, {Kind: kind, Path: "d"}, {Kind: kind, Path: "e"},
			{Kind: kind, Path: "c", File: f("c", 1)}, {Kind: kind, File: f("a/b", 2)},
		} {
			x := grown(t, list(f("a/b", 1)))
			plays(t, "P22.3", x, api.OK, 1, mkdir("d"))
			plays(t, "P22.3", x, api.ErrTree, 0, s)
			holds(t, "P22.3", x, list(f("a/b", 1)), ps("a", "d"))
			plays(t, "P22.3", x, api.ErrTree, 1, write(f("d/x", 1)), s, write(f("d/y", 1)))
			holds(t, "P22.3", x, list(f("a/b", 1), f("d/x", 1)), ps("a", "d"))
			x.Stop(1)
			plays(t, "P22.3", x, api.ErrTree, 0, s, remove("a/b")) // a stopped tree hears nothing of it either
			plays(t, "P22.3", x, api.ErrDown, 1, remove("a/b"), s)
			plays(t, "P22.3", x, api.ErrTree, 0, s)
		}
	}
}

// TestPlayOfRefusedSteps: the first error is the answer, be it another one than those behind it.
func TestPlayOfRefusedSteps(t *testing.T) {
	ahead := plans(mkdir("m"), write(f("m/n", 1)), remove("c"), write(f("a/x", 9)))
	behind := plans(mkdir("z"), remove("m/n"), write(api.File{}), api.Step{Kind: 7}, write(api.File{Path: "z", Size: -1}))
	after := list(f("a/b/y", 1), f("a/x", 9), f("m/n", 1))
	for _, c := range []struct {
		s     api.Step
		want  api.Errno
		heard int
	}{
		{remove("c"), api.ErrTree, 1}, {remove("a"), api.ErrTree, 1}, {remove(""), api.ErrTree, 1}, {remove("/"), api.ErrTree, 1},
		{rmdir("a"), api.ErrTree, 1}, {rmdir("m"), api.ErrTree, 1}, {rmdir(""), api.ErrTree, 1}, {rmdir("q"), api.ErrTree, 1}, {rmdir("a/x"), api.ErrTree, 1},
		{mkdir("a"), api.ErrTree, 1}, {mkdir("m/n"), api.ErrTree, 1}, {mkdir("q/r"), api.ErrTree, 1}, {mkdir(""), api.ErrTree, 1}, {mkdir("a//b"), api.ErrTree, 1},
		{write(f("a", 1)), api.ErrTree, 1}, {write(f("q/r", 1)), api.ErrTree, 1}, {write(f("m/n/o", 1)), api.ErrTree, 1},
		{write(f("", 1)), api.ErrPath, 1}, {write(f("a/../b", 1)), api.ErrPath, 1}, {write(api.File{Path: "m/o", Text: "x"}), api.ErrSnap, 1}, {write(api.File{Path: "m/TARGETS", Size: 1}), api.ErrSnap, 1},
		{api.Step{Kind: 5, Path: "q"}, api.ErrTree, 0},
	} {
		x := grown(t, list(f("a/b/y", 1), f("a/x", 1), f("c", 1)))
		plays(t, "P22.3", x, c.want, len(ahead)+c.heard, slices.Concat(ahead, plans(c.s), behind)...)
		holds(t, "P22.3", x, after, ps("a", "a/b", "m"))
		plays(t, "P22.3", x, c.want, c.heard, slices.Concat(plans(c.s), ahead, behind)...)
		holds(t, "P22.3", x, after, ps("a", "a/b", "m"))
	}
}

// TestPlayOfAStoppedTree stops it at each step of a plan, and behind the last.
func TestPlayOfAStoppedTree(t *testing.T) {
	old, now := exampleOld(), exampleNow()
	steps := makes(t, old, now)
	for n := 1; n <= len(steps)+1; n++ {
		x, done := grown(t, old), grown(t, old)
		plays(t, "P22.3", done, api.OK, n-1, steps[:n-1]...)
		x.Stop(n)
		if n > len(steps) {
			plays(t, "P22.3", x, api.OK, len(steps), steps...)
		} else {
			plays(t, "P22.3", x, api.ErrDown, n, steps...)
		}
		holds(t, "P22.3", x, done.Files(), done.Dirs())
		plays(t, "P22.3", x, api.ErrDown, 1, steps...)
		plays(t, "P22.3", x, api.ErrDown, 1, write(api.File{}), mkdir(""))
		plays(t, "P22.3", x, api.OK, 0)
		holds(t, "P22.3", x, done.Files(), done.Dirs())
		left := x.Crash(0)
		plays(t, "P22.3", left, api.OK, len(steps)-n+1, steps[n-1:]...)
		holds(t, "P22.3", left, now, rising(dirsOf(now)))
	}
}

// TestPlayOnAnotherTree: what stands there by hand refuses a step, and what was done ahead of it stays.
func TestPlayOnAnotherTree(t *testing.T) {
	steps := makes(t, exampleOld(), exampleNow())
	x := grown(t, list(f("a/b/y", 0), f("a/b/z", 0), f("a/x", 1), f("c", 0)))
	plays(t, "P22.3", x, api.ErrTree, 3, steps...)
	holds(t, "P22.3", x, list(f("a/b/z", 0), f("a/x", 1)), ps("a", "a/b"))
	x = grown(t, list(f("a/x", 1), f("c", 0)))
	plays(t, "P22.3", x, api.ErrTree, 2, steps...)
	holds(t, "P22.3", x, list(f("a/x", 1)), ps("a"))
	x = grown(t, list(f("a/b/y", 0), f("a/x", 1), f("c", 0), f("q", 0)))
	plays(t, "P22.3", x, api.OK, len(steps), steps...)
	holds(t, "P22.3", x, list(f("a/x", 2), f("c/d", 0), f("q", 0)), ps("a", "c"))
	x = grown(t, nil)
	plays(t, "P22.3", x, api.OK, 1, mkdir("a"))
	plays(t, "P22.3", x, api.ErrTree, 1, makes(t, nil, list(f("a/b", 1)))...)
	holds(t, "P22.3", x, nil, ps("a"))
}

func TestPlayOfManySteps(t *testing.T) {
	x := grown(t, nil)
	var steps []api.Step
	for i := range 50000 {
		steps = append(steps, mkdir("a"), write(f("a/b", i)), remove("a/b"), rmdir("a"))
	}
	plays(t, "P22.3", x, api.OK, len(steps), steps...)
	holds(t, "P22.3", x, nil, nil)
	plays(t, "P22.3", x, api.ErrTree, len(steps)+1, append(steps, rmdir("a"), mkdir("a"))...)
}

// P22.4

// thereAndBack goes from one snapshot to the other, and back again.
func thereAndBack(t *testing.T, old, now []api.File) {
	t.Helper()
	x := grown(t, old)
	for _, way := range [][2][]api.File{{old, now}, {now, old}, {old, now}} {
		steps := makes(t, way[0], way[1])
		onceEach(t, steps)
		plays(t, "P22.4", x, api.OK, len(steps), steps...)
		holds(t, "P22.4", x, way[1], rising(dirsOf(way[1])))
		if dirty := dirties(t, way[0], way[0], way[1]); len(dirty) != 0 {
			t.Fatalf("P22.4: Dirty(%+v, itself, %+v): %q", way[0], way[1], dirty)
		}
	}
	for _, l := range [][]api.File{old, now} {
		if steps := makes(t, l, l); len(steps) != 0 {
			t.Fatalf("P22.4: Make(%+v, itself): %+v", l, steps)
		}
	}
}

// onceEach: no path is in two steps, but in one that takes something away and in one that puts the other thing there.
func onceEach(t *testing.T, steps []api.Step) {
	t.Helper()
	kinds := map[string]int{}
	for _, s := range steps {
		if before := kinds[s.Path]; before != 0 && (before != api.Delete || s.Kind != api.Mkdir) && (before != api.Rmdir || s.Kind != api.Write) {
			t.Fatalf("P22.4: %q is in a step of kind %d and in one of kind %d: %+v", s.Path, before, s.Kind, steps)
		}
		kinds[s.Path] = s.Kind + 10*kinds[s.Path]
	}
}

// smallSnapshots are all snapshots whose files have some paths and a blob below blobs.
func smallSnapshots(blobs int, paths ...string) [][]api.File {
	all := [][]api.File{nil}
	for _, p := range paths {
		for _, l := range slices.Clone(all) {
			for n := range blobs {
				if l := append(slices.Clone(l), f(p, n)); snapFault(l) == api.OK {
					all = append(all, l)
				}
			}
		}
	}
	return all
}

func TestThereAndBackOfAllSmallSnapshots(t *testing.T) {
	for _, all := range [][][]api.File{
		smallSnapshots(2, "a", "a/b", "a/b/c", "a/d", "a-"),
		smallSnapshots(1, "a", "a/b", "a/b/c", "a/b/c/d", "a/b/e", "a-/b", "ab"),
	} {
		for _, old := range all {
			for _, now := range all {
				thereAndBack(t, old, now)
			}
		}
	}
}

func TestThereAndBackOfDrawnSnapshots(t *testing.T) {
	r := rand.New(rand.NewSource(22))
	for i := range 2500 {
		depth := 1 + i%5
		old := someSnapshot(r, r.Intn(3+i%20), depth)
		thereAndBack(t, old, someSnapshot(r, r.Intn(3+i%20), depth))
		thereAndBack(t, old, turned(r, old, 1+r.Intn(4), depth))
	}
	for range 6 {
		old := someSnapshot(r, 500, 4)
		thereAndBack(t, old, someSnapshot(r, 500, 4))
		thereAndBack(t, old, turned(r, old, 20, 6))
	}
}

// TestOneTreeThroughMany goes from snapshot to snapshot on one tree.
func TestOneTreeThroughMany(t *testing.T) {
	r := rand.New(rand.NewSource(4))
	var last []api.File
	x := grown(t, nil)
	for range 1000 {
		next := turned(r, last, r.Intn(5), 4)
		steps := makes(t, last, next)
		plays(t, "P22.4", x, api.OK, len(steps), steps...)
		holds(t, "P22.4", x, next, rising(dirsOf(next)))
		last = next
	}
}
