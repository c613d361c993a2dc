package delta_test

import (
	"fmt"
	"math"
	"math/rand"
	"regexp"
	"slices"
	"strings"
	"testing"

	"copse/api"
	"copse/delta"
)

// f is the chapter's f(p, n), target a manifest.
func f(p string, n int) api.File { return api.File{Path: p, Blob: n, Size: 1} }

func target(p, text string) api.File { return api.File{Path: p, Text: text, Size: len(text)} }

func put(x api.File) api.Change { return api.Change{Path: x.Path, Has: true, New: x} }

func cut(x api.File) api.Change { return api.Change{Path: x.Path, Had: true, Old: x} }

func turn(x, y api.File) api.Change {
	return api.Change{Path: x.Path, Had: true, Has: true, Old: x, New: y}
}

// list and files are for lines that would be too long.
func list(d ...api.Change) []api.Change { return d }

func files(l ...api.File) []api.File { return l }

// many are the files of some numbers, rising, four in a directory.
func many(from, to int) []api.File {
	var l []api.File
	for i := from; i < to; i++ {
		l = append(l, f(fmt.Sprintf("n/%06d/%d", i/4, i%4), i))
	}
	return l
}

func each(l []api.File, change func(api.File) api.Change) []api.Change {
	var d []api.Change
	for _, x := range l {
		d = append(d, change(x))
	}
	return d
}

// The oracle: the chapter's words over bare maps by path, sorted at the end.

var component = regexp.MustCompile(`^[a-zA-Z0-9._-]{1,32}$`)

func goodPath(p string) bool {
	pieces := strings.Split(p, "/")
	for _, c := range pieces {
		if !component.MatchString(c) || c == "." || c == ".." || c == "..." {
			return false
		}
	}
	return len(p) <= 120 && len(pieces) <= 12
}

func byPieces(a, b string) int {
	return slices.Compare(strings.Split(a, "/"), strings.Split(b, "/"))
}

func goodFile(x api.File) bool {
	if x.Path == "TARGETS" || strings.HasSuffix(x.Path, "/TARGETS") {
		return x.Blob == 0 && x.Size == len(x.Text)
	}
	return x.Text == "" && 0 <= x.Blob && x.Blob <= 1<<60 && 0 <= x.Size && x.Size <= 1<<62
}

// snapFault holds every file against every other one.
func snapFault(l []api.File) api.Errno {
	for _, x := range l {
		if !goodPath(x.Path) {
			return api.ErrPath
		}
	}
	for i, x := range l {
		if !goodFile(x) || i == 512 {
			return api.ErrSnap
		}
		for _, y := range l[i+1:] {
			if byPieces(x.Path, y.Path) >= 0 || strings.HasPrefix(y.Path, x.Path+"/") {
				return api.ErrSnap
			}
		}
	}
	return api.OK
}

func goodChange(c api.Change) bool {
	switch {
	case !goodPath(c.Path):
		return false
	case c.Had && c.Has:
		return c.Old.Path == c.Path && c.New.Path == c.Path && c.Old != c.New
	case c.Had:
		return c.Old.Path == c.Path && c.New == api.File{}
	case c.Has:
		return c.New.Path == c.Path && c.Old == api.File{}
	}
	return false
}

func isDelta(d []api.Change) bool {
	for i, c := range d {
		if !goodChange(c) {
			return false
		}
		for _, other := range d[i+1:] {
			if byPieces(c.Path, other.Path) >= 0 {
				return false
			}
		}
	}
	return true
}

// sorted gives what is in a map, by path.
func sorted[T any](m map[string]T) []T {
	var keys []string
	for p := range m {
		keys = append(keys, p)
	}
	slices.SortFunc(keys, byPieces)
	var l []T
	for _, p := range keys {
		l = append(l, m[p])
	}
	return l
}

func fileMap(l []api.File) map[string]api.File {
	m := map[string]api.File{}
	for _, x := range l {
		m[x.Path] = x
	}
	return m
}

func changeMap(d []api.Change) map[string]api.Change {
	m := map[string]api.Change{}
	for _, c := range d {
		m[c.Path] = c
	}
	return m
}

func diffOf(a, b []api.File) []api.Change {
	if snapFault(a) != api.OK || snapFault(b) != api.OK {
		return nil
	}
	inA, inB := fileMap(a), fileMap(b)
	out := map[string]api.Change{}
	for _, x := range append(slices.Clone(a), b...) {
		c := api.Change{Path: x.Path}
		c.Old, c.Had = inA[x.Path]
		c.New, c.Has = inB[x.Path]
		if !c.Had || !c.Has || c.Old != c.New {
			out[x.Path] = c
		}
	}
	return sorted(out)
}

func applied(a []api.File, d []api.Change) ([]api.File, api.Errno) {
	if e := snapFault(a); e != api.OK {
		return nil, e
	}
	if !isDelta(d) {
		return nil, api.ErrDelta
	}
	m := fileMap(a)
	for _, c := range d {
		x, there := m[c.Path]
		if there != c.Had || there && x != c.Old {
			return nil, api.ErrDelta
		}
		delete(m, c.Path)
		if c.Has {
			m[c.Path] = c.New
		}
	}
	l := sorted(m)
	if snapFault(l) != api.OK {
		return nil, api.ErrDelta
	}
	return l, api.OK
}

func joined(d, e []api.Change) ([]api.Change, api.Errno) {
	if !isDelta(d) || !isDelta(e) {
		return nil, api.ErrDelta
	}
	out := changeMap(d)
	for _, next := range e {
		c, both := out[next.Path]
		if !both {
			out[next.Path] = next
			continue
		}
		if next.Had != c.Has || next.Old != c.New {
			return nil, api.ErrDelta
		}
		c.Has, c.New = next.Has, next.New
		out[c.Path] = c
		if !c.Had && !c.Has || c.Had && c.Has && c.Old == c.New {
			delete(out, c.Path)
		}
	}
	return sorted(out), api.OK
}

func checkApply(t *testing.T, a []api.File, d []api.Change, want []api.File, e api.Errno) {
	t.Helper()
	if l, got := delta.Apply(a, d); !slices.Equal(l, want) || got != e {
		t.Errorf("P6.3: Apply(%+v, %+v): %+v, %d, want %+v, %d", a, d, l, got, want, e)
	}
}

func checkJoin(t *testing.T, d, e, want []api.Change, err api.Errno) {
	t.Helper()
	if j, got := delta.Join(d, e); !slices.Equal(j, want) || got != err {
		t.Errorf("P6.5: Join(%+v, %+v): %+v, %d, want %+v, %d", d, e, j, got, want, err)
	}
}

func checkDiff(t *testing.T, a, b []api.File, want []api.Change) {
	t.Helper()
	if d := delta.Diff(a, b); !slices.Equal(d, want) {
		t.Errorf("P6.2: Diff(%+v, %+v): %+v, want %+v", a, b, d, want)
	}
}

// The small worlds: what may be at some paths; every snapshot, and every delta, that can be made of it.

var (
	bad   = api.File{Path: "a-b", Blob: -1} // in a delta it may be, in no snapshot
	world = [][]api.File{
		{target("TARGETS", ""), target("TARGETS", "x")},
		{f("a", 1), f("a", 2)},
		{f("a/b", 1), {Path: "a/b", Blob: 1, Size: 2}},
		{f("a-b", 1), bad},
	}
)

// snapshots gives all of a world, the empty one first.
func snapshots(world [][]api.File) [][]api.File {
	all := [][]api.File{nil}
	for _, versions := range world {
		for _, l := range slices.Clone(all) {
			for _, x := range versions {
				if more := append(slices.Clone(l), x); snapFault(more) == api.OK {
					all = append(all, more)
				}
			}
		}
	}
	return all
}

// deltas gives all of a world, the empty one first.
func deltas(world [][]api.File) [][]api.Change {
	all := [][]api.Change{nil}
	for _, versions := range world {
		var changes []api.Change
		for _, x := range versions {
			changes = append(changes, put(x), cut(x))
			for _, y := range versions {
				if x != y {
					changes = append(changes, turn(x, y))
				}
			}
		}
		for _, d := range slices.Clone(all) {
			for _, c := range changes {
				all = append(all, append(slices.Clone(d), c))
			}
		}
	}
	return all
}

// P6.1

// The greatest paths: of 12 components, of 120 bytes, of components of 32 bytes.
var (
	deep    = strings.Repeat("d/", 11) + "f"
	longest = strings.Repeat(strings.Repeat("c", 29)+"/", 3) + strings.Repeat("e", 30)
	broad   = strings.Repeat("c", 32) + "/" + strings.Repeat("b", 32)
)

// noPaths are no places of a file, each for its own reason.
var noPaths = []string{
	"", "a//b", "/a", "a/", "/", "a/..", ".", "..", "...", "a/./b", "a b", "a\nb", "a\x00", "\xff", "é", "a:b", "*",
	deep + "/g", longest + "x", strings.Repeat("c", 33), strings.Repeat("a/", 1000),
}

// notDeltas are lists, each of which is no delta for one reason alone.
func notDeltas() [][]api.Change {
	a, b, other := f("a", 1), f("b", 1), f("a", 2)
	all := [][]api.Change{
		list(api.Change{Path: "a"}),
		list(api.Change{Path: "a", Old: a}),
		list(api.Change{Path: "a", New: a}),
		list(api.Change{Path: "a", Old: a, New: other}),
		list(turn(a, a)),
		list(turn(target("TARGETS", "x"), target("TARGETS", "x"))),
		list(api.Change{Path: "a", Has: true, New: b}),
		list(api.Change{Path: "a", Has: true, New: f("a/b", 1)}),
		list(api.Change{Path: "a", Has: true, New: f("", 1)}),
		list(api.Change{Path: "a", Has: true}),
		list(api.Change{Path: "a", Had: true, Old: b}),
		list(api.Change{Path: "a", Had: true, Old: f("", 1)}),
		list(api.Change{Path: "a", Had: true}),
		list(api.Change{Path: "a", Had: true, Has: true, Old: b, New: a}),
		list(api.Change{Path: "a", Had: true, Has: true, Old: a, New: b}),
		list(api.Change{Path: "a", Had: true, Has: true, Old: a}),
		list(api.Change{Path: "a", Had: true, Has: true, New: a}),
		list(api.Change{Path: "b", Had: true, Has: true, Old: a, New: other}),
		list(api.Change{Path: "a", Had: true, Old: a, New: other}),
		list(api.Change{Path: "a", Had: true, Old: a, New: a}),
		list(api.Change{Path: "a", Had: true, Old: a, New: api.File{Path: "a"}}),
		list(api.Change{Path: "a", Had: true, Old: a, New: api.File{Text: "x"}}),
		list(api.Change{Path: "a", Had: true, Old: a, New: api.File{Blob: 1}}),
		list(api.Change{Path: "a", Had: true, Old: a, New: api.File{Size: 1}}),
		list(api.Change{Path: "a", Has: true, Old: other, New: a}),
		list(api.Change{Path: "a", Has: true, Old: api.File{Path: "a"}, New: a}),
		list(api.Change{Path: "a", Has: true, Old: api.File{Text: "x"}, New: a}),
		list(api.Change{Path: "a", Has: true, Old: api.File{Blob: 1}, New: a}),
		list(api.Change{Path: "a", Has: true, Old: api.File{Size: -1}, New: a}),
		list(put(a), put(a)),
		list(put(a), cut(a)),
		list(cut(a), put(other)),
		list(put(b), put(a)),
		list(put(a), put(b), put(a)),
		list(put(a), put(f("c", 1)), put(b)),
		list(put(f("a-b", 1)), put(f("a/b", 1))), // the bytes rise, the components don't
		list(put(f("a/b", 1)), cut(a)),
		list(put(f("a", 1)), put(f("B", 1))),
		list(put(a), put(b), api.Change{Path: "c"}),
		list(api.Change{}, put(a)),
	}
	for _, p := range noPaths {
		all = append(all, list(put(f(p, 1))), list(cut(f(p, 1))), list(turn(f(p, 1), f(p, 2))))
	}
	return all
}

func TestNotValid(t *testing.T) {
	for i, d := range notDeltas() {
		if delta.Valid(d) || isDelta(d) {
			t.Errorf("P6.1: %d: Valid(%+v)", i, d)
		}
	}
}

func TestValid(t *testing.T) {
	a := f("a", 1)
	for i, d := range [][]api.Change{
		nil,
		{},
		{put(a)},
		{cut(a)},
		{turn(a, f("a", 2))},
		{turn(a, api.File{Path: "a", Blob: 1, Size: 2})},
		{turn(a, api.File{Path: "a", Text: "x", Blob: 1, Size: 1})},
		{put(a), cut(f("a/b", 1)), put(f("a-b", 1)), turn(f("b", 1), f("b", 2))}, // a file above another is Apply's to refuse
		{put(f("TARGETS", 1)), put(target("TARGETS/TARGETS", "x"))},
		{put(f("B", 1)), put(a)},
		{put(api.File{Path: "a"})},
		{cut(api.File{Path: "a"})},
		{put(api.File{Path: "a", Text: "x", Blob: -1, Size: math.MinInt})},
		{cut(api.File{Path: "a", Text: "x", Blob: math.MaxInt, Size: -1})},
		{turn(api.File{Path: "a", Blob: -1}, api.File{Path: "a", Blob: -2})},
		{put(api.File{Path: "TARGETS", Text: "x", Blob: 1, Size: 9})},
		{put(f(longest, 1)), put(f(broad, 1)), put(f(deep, 1))},
		each(many(0, 1500), put),
	} {
		if !delta.Valid(d) {
			t.Errorf("P6.1: %d: not Valid(%+v)", i, d)
		}
	}
}

// TestValidOfAllShortLists makes changes of every flag, path and file, alone and in pairs.
func TestValidOfAllShortLists(t *testing.T) {
	var changes []api.Change
	sides := files(api.File{}, f("a", 1), f("a", 2), f("a/b", 1), f("", 1))
	for _, p := range []string{"a", "a/b", ""} {
		for _, old := range sides {
			for _, now := range sides {
				for flags := range 4 {
					changes = append(changes, api.Change{Path: p, Had: flags&1 != 0, Has: flags&2 != 0, Old: old, New: now})
				}
			}
		}
	}
	hold := func(d ...api.Change) {
		if got, want := delta.Valid(d), isDelta(d); got != want {
			t.Errorf("P6.1: Valid(%+v): %t", d, got)
		}
	}
	for _, c := range changes {
		hold(c)
		for _, other := range changes {
			hold(c, other)
		}
	}
}

// P6.2

func TestExample1(t *testing.T) {
	a, b := files(f("a", 1), f("b", 1)), files(f("b", 2), f("c", 1))
	checkDiff(t, a, b, list(
		api.Change{Path: "a", Had: true, Old: f("a", 1)},
		api.Change{Path: "b", Had: true, Has: true, Old: f("b", 1), New: f("b", 2)},
		api.Change{Path: "c", Has: true, New: f("c", 1)},
	))
	checkDiff(t, a, a, nil)
}

func TestDiff(t *testing.T) {
	x := api.File{Path: "x", Blob: 7, Size: 9}
	for _, c := range []struct {
		a, b []api.File
		want []api.Change
	}{
		{nil, nil, nil},
		{nil, files(x), list(put(x))},
		{files(x), nil, list(cut(x))},
		{files(x), files(x), nil},
		{files(x), files(api.File{Path: "x", Blob: 8, Size: 9}), list(turn(x, api.File{Path: "x", Blob: 8, Size: 9}))},
		{files(x), files(api.File{Path: "x", Blob: 7, Size: 8}), list(turn(x, api.File{Path: "x", Blob: 7, Size: 8}))},
		{files(target("TARGETS", "x")), files(target("TARGETS", "y")), list(turn(target("TARGETS", "x"), target("TARGETS", "y")))},
		{files(f("a", 1)), files(f("a/b", 1), f("a-b", 1)), list(cut(f("a", 1)), put(f("a/b", 1)), put(f("a-b", 1)))},
		{files(f("a/z", 1), f("a-b", 1)), files(f("a", 1), f("a-b", 2)), list(put(f("a", 1)), cut(f("a/z", 1)), turn(f("a-b", 1), f("a-b", 2)))},
		{files(f("B", 1), f("b", 1)), files(f("A", 1), f("a", 1)), list(put(f("A", 1)), cut(f("B", 1)), put(f("a", 1)), cut(f("b", 1)))},
		{many(0, 512), many(0, 511), list(cut(many(511, 512)[0]))},
		{many(0, 512), many(512, 1024), append(each(many(0, 512), cut), each(many(512, 1024), put)...)},
	} {
		checkDiff(t, c.a, c.b, c.want)
	}
}

// notSnapshots are lists that are no snapshots, by the error that says so.
var notSnapshots = []struct {
	l []api.File
	e api.Errno
}{
	{files(f("", 1)), api.ErrPath},
	{files(f("b", 1), f("", 1), f("a", 1)), api.ErrPath},
	{files(f("a//b", 1)), api.ErrPath},
	{files(f("a", -1), f("b/", 1)), api.ErrPath},
	{files(f("b", 1), f("a", 1)), api.ErrSnap},
	{files(f("a", 1), f("a", 1)), api.ErrSnap},
	{files(f("a", 1), f("a/b", 1)), api.ErrSnap},
	{files(f("a-b", 1), f("a/b", 1)), api.ErrSnap},
	{files(f("a", -1)), api.ErrSnap},
	{files(target("a", "x")), api.ErrSnap},
	{files(api.File{Path: "TARGETS", Text: "x", Size: 2}), api.ErrSnap},
	{many(0, 513), api.ErrSnap},
}

func TestDiffOfNoSnapshot(t *testing.T) {
	for _, c := range notSnapshots {
		for _, l := range [][]api.File{nil, files(f("a", 1)), c.l, files(f("x", 1), f("y", 1))} {
			checkDiff(t, c.l, l, nil)
			checkDiff(t, l, c.l, nil)
		}
	}
}

// P6.3

func TestExample2(t *testing.T) {
	a := files(f("a", 1))
	checkApply(t, a, list(cut(f("a", 1)), put(f("a/b", 1))), files(f("a/b", 1)), api.OK)
	checkApply(t, a, list(put(f("a/b", 1))), nil, api.ErrDelta)
	checkApply(t, a, list(cut(f("a", 2))), nil, api.ErrDelta)
	checkApply(t, nil, list(cut(f("a", 1))), nil, api.ErrDelta)
	checkApply(t, a, list(put(f("a", 1))), nil, api.ErrDelta)
	checkApply(t, a, list(put(f("a", 2))), nil, api.ErrDelta)
}

func TestApply(t *testing.T) {
	a := files(target("TARGETS", "x"), f("a/b", 1), f("a/c", 1), f("d", 1))
	for _, c := range []struct {
		d    []api.Change
		want []api.File
	}{
		{nil, a},
		{list(), a},
		{list(cut(a[0])), a[1:]},
		{list(cut(a[3])), a[:3]},
		{list(cut(a[0]), cut(a[1]), cut(a[2]), cut(a[3])), nil},
		{list(turn(a[0], target("TARGETS", ""))), files(target("TARGETS", ""), a[1], a[2], a[3])},
		{list(turn(a[3], f("d", 2))), files(a[0], a[1], a[2], f("d", 2))},
		{list(put(f("A", 1)), put(f("a/bb", 1)), put(f("a-b", 1)), put(f("z", 1))), files(f("A", 1), a[0], a[1], f("a/bb", 1), a[2], f("a-b", 1), a[3], f("z", 1))},
		{list(put(f("a", 1)), cut(a[1]), cut(a[2])), files(a[0], f("a", 1), a[3])},
		{list(cut(a[3]), put(f("d/e/f", 1)), put(f("d/g", 1))), files(a[0], a[1], a[2], f("d/e/f", 1), f("d/g", 1))},
		{list(cut(a[1]), put(target("a/b/TARGETS", "x")), turn(a[2], f("a/c", 2))), files(a[0], target("a/b/TARGETS", "x"), f("a/c", 2), a[3])},
	} {
		checkApply(t, a, c.d, c.want, api.OK)
	}
}

// TestApplyRefuses holds the reasons that lie in the snapshot's own files.
func TestApplyRefuses(t *testing.T) {
	a := files(target("TARGETS", "x"), f("a/b", 1), f("a/c", 1), f("d", 1))
	for _, d := range [][]api.Change{
		{cut(f("b", 1))},
		{cut(f("a", 1))}, // a directory is no file
		{cut(f("d/e", 1))},
		{turn(f("b", 1), f("b", 2))},
		{put(f("d", 1))},
		{put(f("d", 2))},
		{put(target("TARGETS", "x"))},
		{cut(f("d", 2))},
		{cut(api.File{Path: "d", Blob: 1, Size: 2})},
		{cut(api.File{Path: "d", Text: "x", Blob: 1, Size: 1})},
		{cut(target("TARGETS", "y"))},
		{turn(f("d", 2), f("d", 1))},
		{turn(f("d", 2), f("d", 3))},
		{put(f("z", 1)), cut(f("z/a", 1))},
		{cut(f("a/b", 1)), cut(f("a/c", 1)), cut(f("d", 2))},
		{put(f("a", 1))}, // above others
		{put(f("a", 1)), cut(f("a/b", 1))},
		{cut(f("a/b", 1)), put(f("a/b/c", 1)), put(f("a/b/c/d", 1))},
		{put(f("d/e", 1))}, // below one
		{put(f("d/e/f/g", 1))},
		{turn(f("d", 1), f("d", 2)), put(f("d/e", 1))},
		{put(target("TARGETS/TARGETS", "x"))},
		{put(f("z", -1))}, // may not stand in a snapshot
		{turn(f("d", 1), f("d", 1<<60+1))},
		{put(api.File{Path: "z", Size: 1<<62 + 1})},
		{put(api.File{Path: "z", Size: -1})},
		{put(target("z", "x"))},
		{turn(target("TARGETS", "x"), f("TARGETS", 1))},
		{turn(target("TARGETS", "x"), api.File{Path: "TARGETS", Text: "x"})},
	} {
		checkApply(t, a, d, nil, api.ErrDelta)
	}
	for _, d := range notDeltas() {
		checkApply(t, a, d, nil, api.ErrDelta)
		checkApply(t, nil, d, nil, api.ErrDelta)
		checkApply(t, files(f("a", 1)), d, nil, api.ErrDelta)
	}
}

// TestApplyNamesTheFirstError: what a is, is asked ahead of what d is.
func TestApplyNamesTheFirstError(t *testing.T) {
	for _, c := range notSnapshots {
		checkApply(t, c.l, nil, nil, c.e)
		checkApply(t, c.l, list(put(f("z", 1))), nil, c.e)
		checkApply(t, c.l, list(cut(f("z", 1))), nil, c.e)
		checkApply(t, c.l, each(c.l, cut), nil, c.e)
		checkApply(t, c.l, list(api.Change{}), nil, c.e)
		for _, d := range notDeltas() {
			checkApply(t, c.l, d, nil, c.e)
		}
	}
}

func TestApplyOfMany(t *testing.T) {
	full := many(0, 512)
	rest := many(512, 1024)
	first := f("a", 1)
	checkApply(t, full[:511], list(put(full[511])), full, api.OK)
	checkApply(t, full, list(put(rest[0])), nil, api.ErrDelta)
	checkApply(t, full, list(put(first)), nil, api.ErrDelta)
	checkApply(t, full, list(put(first), cut(full[511])), append(files(first), full[:511]...), api.OK) // one too many only on the way
	checkApply(t, full, list(cut(full[0]), put(rest[0])), append(slices.Clone(full[1:]), rest[0]), api.OK)
	checkApply(t, full, list(cut(full[0]), put(rest[0]), put(rest[1])), nil, api.ErrDelta)
	checkApply(t, nil, each(full, put), full, api.OK)
	checkApply(t, nil, each(many(0, 513), put), nil, api.ErrDelta)
	checkApply(t, full, each(full, cut), nil, api.OK)
	checkApply(t, full, append(each(full, cut), each(rest, put)...), rest, api.OK)
	checkApply(t, rest, append(each(full, put), each(rest, cut)...), full, api.OK)
	checkApply(t, full, append(each(full, cut), each(many(512, 1025), put)...), nil, api.ErrDelta)
	if l, e := delta.Apply(full, each(many(512, 200000), put)); len(l) != 0 || e != api.ErrDelta {
		t.Errorf("P6.3: %d files, %d", len(l), e)
	}
}

// TestApplyInTheSmallWorld does every delta to every snapshot, and holds what follows of each.
func TestApplyInTheSmallWorld(t *testing.T) {
	all := deltas(world)
	done := 0
	for _, a := range snapshots(world) {
		for _, d := range all {
			want, wantE := applied(a, d)
			b, e := delta.Apply(a, d)
			if e != wantE || !slices.Equal(b, want) {
				t.Fatalf("P6.3: Apply(%+v, %+v): %+v, %d, want %+v, %d", a, d, b, e, want, wantE)
			}
			if e != api.OK {
				continue
			}
			done++
			if back, e := delta.Apply(b, delta.Invert(d)); e != api.OK || !slices.Equal(back, a) {
				t.Fatalf("P6.8: there and back by %+v: %+v, %d, want %+v", d, back, e, a)
			}
			if again := delta.Diff(a, b); !slices.Equal(again, d) {
				t.Fatalf("P6.8: Diff(%+v, %+v): %+v, want %+v", a, b, again, d)
			}
		}
	}
	if n := len(snapshots(world)); done != n*n {
		t.Errorf("P6.8: %d of %d ways from snapshot to snapshot", done, n*n)
	}
}

// P6.4, P6.6

// anyLists are lists of changes of all kinds, deltas or not.
func anyLists() [][]api.Change {
	odd := api.Change{Path: "p//q", Has: true, Old: f("old", -1), New: target("new", "x")}
	all := append(notDeltas(), nil, list(), list(odd, odd), list(odd, put(f("a", 1)), odd, cut(f("a", 1))))
	return append(all, list(put(f("b", 1)), turn(f("a", 1), f("a", 2)), api.Change{}), each(many(0, 2000), put))
}

func TestInvertOfAnyList(t *testing.T) {
	for _, d := range anyLists() {
		back := delta.Invert(d)
		if len(back) != len(d) {
			t.Fatalf("P6.4: Invert(%+v): %+v", d, back)
		}
		for i, c := range d {
			if want := (api.Change{Path: c.Path, Had: c.Has, Has: c.Had, Old: c.New, New: c.Old}); back[i] != want {
				t.Errorf("P6.4: Invert(%+v): change %d: %+v", d, i, back[i])
			}
		}
		if again := delta.Invert(back); !slices.Equal(again, d) {
			t.Errorf("P6.4: Invert of Invert(%+v): %+v", d, again)
		}
		if delta.Valid(back) != delta.Valid(d) {
			t.Errorf("P6.4: Valid(%+v): %t, turned back not", d, delta.Valid(d))
		}
	}
}

func TestPathsOfAnyList(t *testing.T) {
	for _, d := range anyLists() {
		var want []string
		for _, c := range d {
			want = append(want, c.Path)
		}
		if l := delta.Paths(d); !slices.Equal(l, want) {
			t.Errorf("P6.6: Paths(%+v): %q", d, l)
		}
	}
}

func TestExample5(t *testing.T) {
	if l := delta.Paths(list(put(f("b", 1)), cut(f("a", 1)))); !slices.Equal(l, []string{"b", "a"}) {
		t.Errorf("P6.6: %q", l)
	}
	if d := delta.Invert(list(put(f("a", 1)))); !slices.Equal(d, list(cut(f("a", 1)))) {
		t.Errorf("P6.4: %+v", d)
	}
}

// P6.5

func TestExample4(t *testing.T) {
	checkJoin(t, list(put(f("a", 1))), list(cut(f("a", 1))), nil, api.OK)
	checkJoin(t, list(put(f("a", 1))), list(turn(f("a", 1), f("a", 2))), list(put(f("a", 2))), api.OK)
	checkJoin(t, list(cut(f("a", 1))), list(cut(f("a", 1))), nil, api.ErrDelta)
}

func TestJoin(t *testing.T) {
	one, two, three := f("a", 1), f("a", 2), f("a", 3)
	b, c := f("b", 1), f("c", 1)
	for _, x := range []struct{ d, e, want []api.Change }{
		{nil, nil, nil},
		{nil, list(put(one)), list(put(one))},
		{list(put(one)), nil, list(put(one))},
		{list(cut(one)), list(put(one)), nil},
		{list(cut(one)), list(put(two)), list(turn(one, two))},
		{list(turn(one, two)), list(turn(two, three)), list(turn(one, three))},
		{list(turn(one, two)), list(turn(two, one)), nil},
		{list(turn(one, two)), list(cut(two)), list(cut(one))},
		{list(put(b)), list(put(one)), list(put(one), put(b))},
		{list(put(one)), list(put(b)), list(put(one), put(b))},
		{list(put(one), put(c)), list(cut(b)), list(put(one), cut(b), put(c))},
		{list(put(b)), list(put(one), cut(b), put(c)), list(put(one), put(c))},
		{list(cut(one), cut(b), cut(c)), list(put(two), put(b), put(c)), list(turn(one, two))},
		{list(put(f("a-b", 1))), list(put(f("a/b", 1))), list(put(f("a/b", 1)), put(f("a-b", 1)))},
		{list(put(one)), list(put(f("a/b", 1))), list(put(one), put(f("a/b", 1)))}, // whether they stand together is Apply's to say
		{list(put(f("a", -1))), list(turn(f("a", -1), f("a", -2))), list(put(f("a", -2)))},
		{each(many(0, 1000), put), each(many(500, 1500), func(x api.File) api.Change {
			if x.Blob < 1000 {
				return cut(x)
			}
			return put(x)
		}), append(each(many(0, 500), put), each(many(1000, 1500), put)...)},
	} {
		checkJoin(t, x.d, x.e, x.want, api.OK)
	}
}

func TestJoinRefuses(t *testing.T) {
	one, two := f("a", 1), f("a", 2)
	for _, x := range []struct{ d, e []api.Change }{
		{list(put(one)), list(put(one))},
		{list(put(one)), list(put(two))},
		{list(cut(one)), list(cut(two))},
		{list(cut(one)), list(turn(one, two))},
		{list(put(one)), list(cut(two))},
		{list(put(one)), list(cut(api.File{Path: "a", Blob: 1, Size: 2}))},
		{list(put(target("TARGETS", "x"))), list(cut(target("TARGETS", "y")))},
		{list(turn(one, two)), list(turn(one, two))},
		{list(turn(one, two)), list(cut(one))},
		{list(turn(one, two)), list(put(one))},
		{list(put(one), put(f("b", 1)), put(f("c", 1))), list(cut(one), put(f("bb", 1)), cut(f("c", 2)))},
	} {
		checkJoin(t, x.d, x.e, nil, api.ErrDelta)
	}
	for _, d := range notDeltas() {
		for _, good := range [][]api.Change{nil, list(put(one)), list(cut(one)), list(put(f("z", 1)))} {
			checkJoin(t, d, good, nil, api.ErrDelta)
			checkJoin(t, good, d, nil, api.ErrDelta)
		}
		checkJoin(t, d, d, nil, api.ErrDelta)
		checkJoin(t, d, delta.Invert(d), nil, api.ErrDelta)
	}
}

// TestJoinInASmallWorld joins every two deltas, and does them to every snapshot one behind the other.
func TestJoinInASmallWorld(t *testing.T) {
	small := [][]api.File{{f("a", 1), f("a", 2)}, {f("a/b", 1), f("a/b", 2)}, {f("a-b", 1), bad}}
	for _, world := range [][][]api.File{small[:2], small[1:]} {
		all, olds := deltas(world), snapshots(world)
		for _, d := range all {
			for _, e := range all {
				want, wantE := joined(d, e)
				j, err := delta.Join(d, e)
				if err != wantE || !slices.Equal(j, want) {
					t.Fatalf("P6.5: Join(%+v, %+v): %+v, %d, want %+v, %d", d, e, j, err, want, wantE)
				}
				for _, a := range olds {
					oneBehindTheOther(t, a, d, e, j, err)
				}
			}
		}
	}
	all := deltas(small)
	for _, d := range all {
		for _, e := range all {
			want, wantE := joined(d, e)
			checkJoin(t, d, e, want, wantE)
		}
		if t.Failed() {
			return
		}
	}
}

func oneBehindTheOther(t *testing.T, a []api.File, d, e, j []api.Change, err api.Errno) {
	t.Helper()
	b, e1 := delta.Apply(a, d)
	if e1 != api.OK {
		return
	}
	c, e2 := delta.Apply(b, e)
	if e2 != api.OK {
		return
	}
	if err != api.OK {
		t.Fatalf("P6.8: %+v takes %+v and %+v, Join refuses them", a, d, e)
	}
	if want := delta.Diff(a, c); !slices.Equal(j, want) {
		t.Fatalf("P6.8: Join(%+v, %+v): %+v, want %+v", d, e, j, want)
	}
	if again, e3 := delta.Apply(a, j); e3 != api.OK || !slices.Equal(again, c) {
		t.Fatalf("P6.8: %+v, joined by %+v and %+v: %+v, %d", a, d, e, again, e3)
	}
}

// P6.8

// TestWhatFollows takes every two and every three snapshots of the small world.
func TestWhatFollows(t *testing.T) {
	all := snapshots(world)
	if len(all) < 30 {
		t.Fatalf("%d snapshots", len(all))
	}
	for _, a := range all {
		for _, b := range all {
			d := checkWay(t, a, b)
			for _, c := range all {
				j, err := delta.Join(d, delta.Diff(b, c))
				if want := delta.Diff(a, c); err != api.OK || !slices.Equal(j, want) {
					t.Fatalf("P6.8: from %+v by %+v to %+v: %+v, %d, want %+v", a, b, c, j, err, want)
				}
			}
		}
	}
}

// checkWay holds all that follows of two snapshots, and gives their delta.
func checkWay(t *testing.T, a, b []api.File) []api.Change {
	t.Helper()
	d := delta.Diff(a, b)
	if want := diffOf(a, b); !slices.Equal(d, want) {
		t.Fatalf("P6.2: Diff(%+v, %+v): %+v, want %+v", a, b, d, want)
	}
	if !delta.Valid(d) || !isDelta(d) {
		t.Fatalf("P6.8: Diff(%+v, %+v) is no delta: %+v", a, b, d)
	}
	if (len(d) == 0) != slices.Equal(a, b) {
		t.Fatalf("P6.8: Diff(%+v, %+v): %+v", a, b, d)
	}
	if l, e := delta.Apply(a, d); e != api.OK || !slices.Equal(l, b) {
		t.Fatalf("P6.8: Apply(%+v, %+v): %+v, %d, want %+v", a, d, l, e, b)
	}
	if l, e := delta.Apply(b, delta.Invert(d)); e != api.OK || !slices.Equal(l, a) {
		t.Fatalf("P6.8: back by %+v: %+v, %d, want %+v", d, l, e, a)
	}
	if back := delta.Diff(b, a); !slices.Equal(back, delta.Invert(d)) {
		t.Fatalf("P6.8: Diff(%+v, %+v): %+v, want %+v turned back", b, a, back, d)
	}
	at := delta.Paths(d)
	inB := fileMap(b)
	for _, x := range a {
		if !slices.Contains(at, x.Path) && inB[x.Path] != x {
			t.Fatalf("P6.8: %q is none of %q, but has changed", x.Path, at)
		}
	}
	inA := fileMap(a)
	for _, x := range b {
		if !slices.Contains(at, x.Path) && inA[x.Path] != x {
			t.Fatalf("P6.8: %q is none of %q, but has changed", x.Path, at)
		}
	}
	return d
}

// grown is a snapshot of up to some 200 files at random places, some of which are kept from another one.
func grown(r *rand.Rand, from []api.File) []api.File {
	m := map[string]api.File{}
	for _, x := range from {
		if r.Intn(3) > 0 {
			m[x.Path] = x
		}
	}
	names := []string{"a", "b", "a-b", "ab", "A", "z.9", "TARGETS"}
	for range r.Intn(100) {
		p := names[r.Intn(len(names))]
		for r.Intn(4) > 0 && len(p) < 30 {
			p += "/" + names[r.Intn(len(names))]
		}
		m[p] = f(p, r.Intn(3))
		if p == "TARGETS" || strings.HasSuffix(p, "/TARGETS") {
			m[p] = target(p, strings.Repeat("x", r.Intn(3)))
		}
	}
	var l []api.File
	for _, x := range sorted(m) {
		if len(l) == 0 || !strings.HasPrefix(x.Path, l[len(l)-1].Path+"/") {
			l = append(l, x)
		}
	}
	return l
}

// TestLongWays goes from snapshot to snapshot, by fixed seeds, and joins all of the way.
func TestLongWays(t *testing.T) {
	for seed := range int64(20) {
		r := rand.New(rand.NewSource(seed))
		first := grown(r, nil)
		last := first
		var all []api.Change
		for range 20 {
			next := grown(r, last)
			var err api.Errno
			if all, err = delta.Join(all, checkWay(t, last, next)); err != api.OK {
				t.Fatalf("P6.8: seed %d: Join: %d", seed, err)
			}
			if want := delta.Diff(first, next); !slices.Equal(all, want) {
				t.Fatalf("P6.8: seed %d: joined: %+v, want %+v", seed, all, want)
			}
			checkWay(t, first, next)
			last = next
		}
	}
}

// P6.7

var (
	markFile   = api.File{Path: "mark", Text: "mark", Blob: -7, Size: -7}
	markChange = api.Change{Path: "mark", Had: true, Has: true, Old: markFile, New: markFile}
)

// withRoom gives a list in front of marks, and all of it.
func withRoom[T any](items []T, mark T) (list, whole []T) {
	whole = append(slices.Clone(items), mark, mark, mark, mark)
	return whole[:len(items)], whole
}

func fill[T any](l []T, with T) {
	for i := range l[:cap(l)] {
		l[:cap(l)][i] = with
	}
}

// held are lists in room with marks: stays tells whether all is as it was, spoil writes over all of it.
type held struct {
	a, b  []api.File
	d, e  []api.Change
	stays func() bool
	spoil func()
}

func hold(a, b []api.File, d, e []api.Change) held {
	var h held
	var wholeA, wholeB []api.File
	var wholeD, wholeE []api.Change
	h.a, wholeA = withRoom(a, markFile)
	h.b, wholeB = withRoom(b, markFile)
	h.d, wholeD = withRoom(d, markChange)
	h.e, wholeE = withRoom(e, markChange)
	wasA, wasB, wasD, wasE := slices.Clone(wholeA), slices.Clone(wholeB), slices.Clone(wholeD), slices.Clone(wholeE)
	h.stays = func() bool {
		return slices.Equal(wholeA, wasA) && slices.Equal(wholeB, wasB) && slices.Equal(wholeD, wasD) && slices.Equal(wholeE, wasE)
	}
	h.spoil = func() {
		fill(wholeA, markFile)
		fill(wholeB, markFile)
		fill(wholeD, markChange)
		fill(wholeE, markChange)
	}
	return h
}

// apart: what a call answers is written over, which changes neither what was handed in nor another answer; what was handed in is then written over, which changes no answer.
func apart[T comparable](t *testing.T, name string, h held, mark T, call func(h held) []T) {
	t.Helper()
	one, two := call(h), call(h)
	if !h.stays() {
		t.Fatalf("P6.7: %s changed what was handed in", name)
	}
	want := slices.Clone(two)
	fill(one, mark)
	if !h.stays() {
		t.Errorf("P6.7: %s answers what was handed in", name)
	}
	if !slices.Equal(two, want) {
		t.Errorf("P6.7: %s: two answers share memory", name)
	}
	h.spoil()
	if !slices.Equal(two, want) {
		t.Errorf("P6.7: %s keeps what was handed in", name)
	}
}

func TestMemoryIsApart(t *testing.T) {
	checkApart(t, nil, nil, nil, nil)
	checkApart(t, files(f("b", 1), f("a", 1)), files(f("", 1)), list(put(f("b", 1)), put(f("a", 1))), list(api.Change{}))
	all := snapshots(world)
	for i, a := range all {
		b, c := all[(i*7+3)%len(all)], all[(i*11+5)%len(all)]
		checkApart(t, a, b, diffOf(a, b), diffOf(b, c))
		checkApart(t, a, b, diffOf(a, b), nil)
		checkApart(t, a, b, nil, diffOf(a, c))
		checkApart(t, a, b, diffOf(b, a), diffOf(b, a)) // refused, unless a is b
	}
}

func checkApart(t *testing.T, a, b []api.File, d, e []api.Change) {
	t.Helper()
	apart(t, "Valid", hold(a, b, d, e), false, func(h held) []bool { return []bool{delta.Valid(h.d), delta.Valid(h.e)} })
	apart(t, "Diff", hold(a, b, d, e), markChange, func(h held) []api.Change { return delta.Diff(h.a, h.b) })
	apart(t, "Apply", hold(a, b, d, e), markFile, func(h held) []api.File {
		l, _ := delta.Apply(h.a, h.d)
		return l
	})
	apart(t, "Invert", hold(a, b, d, e), markChange, func(h held) []api.Change { return delta.Invert(h.d) })
	apart(t, "Join", hold(a, b, d, e), markChange, func(h held) []api.Change {
		j, _ := delta.Join(h.d, h.e)
		return j
	})
	apart(t, "Paths", hold(a, b, d, e), "mark", func(h held) []string { return delta.Paths(h.d) })
}

// TestOneListTwice: the same list may be handed in at both places.
func TestOneListTwice(t *testing.T) {
	a := files(f("a", 1), f("b", 1))
	d := list(put(f("a", 1)), cut(f("b", 1)))
	checkDiff(t, a, a, nil)
	checkDiff(t, a[:1], a, list(put(f("b", 1))))
	checkDiff(t, a, a[1:], list(cut(f("a", 1))))
	checkJoin(t, d, d, nil, api.ErrDelta)
	checkJoin(t, d[:1], d[1:], d, api.OK)
	if !slices.Equal(a, files(f("a", 1), f("b", 1))) || !slices.Equal(d, list(put(f("a", 1)), cut(f("b", 1)))) {
		t.Errorf("P6.7: %+v, %+v", a, d)
	}
}

func TestOnlyTheListCounts(t *testing.T) {
	a, _ := withRoom(files(f("a", 1)), markFile)
	d, _ := withRoom(list(cut(f("a", 1))), markChange)
	if !delta.Valid(d) || len(delta.Paths(d)) != 1 || len(delta.Invert(d)) != 1 {
		t.Error("P6.7: what is behind the list was looked at")
	}
	checkApply(t, a, d, nil, api.OK)
	checkDiff(t, a, nil, d)
	checkJoin(t, d, list(put(f("a", 1))), nil, api.OK)
}
