package plan_test

import (
	"fmt"
	"math/rand"
	"slices"
	"strings"
	"testing"

	"copse/api"
	"copse/plan"
)

// with puts files into a list in place of those at their paths, at a snapshot's places.
func with(l []api.File, more ...api.File) []api.File {
	l = slices.Clone(l)
	for _, x := range more {
		l = slices.DeleteFunc(l, func(y api.File) bool { return y.Path == x.Path })
		l = append(l, x)
	}
	slices.SortStableFunc(l, func(x, y api.File) int { return byPieces(x.Path, y.Path) })
	return l
}

// lacking takes the files at some paths out.
func lacking(l []api.File, gone ...string) []api.File {
	return slices.DeleteFunc(slices.Clone(l), func(x api.File) bool { return slices.Contains(gone, x.Path) })
}

// The plan from wayOld to wayNow: Delete s, g/h/i, d/x, Rmdir g/h, g, Mkdir s, n, n/o, Write k/w, n/o/p, s/t.
func wayOld() []api.File {
	return list(f("d/x", 1), f("d/y", 1), f("g/h/i", 1), f("k/w", 1), f("k/z", 1), f("s", 1))
}

func wayNow() []api.File {
	return list(f("d/y", 1), f("k/w", 2), f("k/z", 1), f("n/o/p", 1), f("s/t", 1))
}

func TestWay(t *testing.T) {
	want := plans(remove("s"), remove("g/h/i"), remove("d/x"), rmdir("g/h"), rmdir("g"), mkdir("n"), mkdir("n/o"), mkdir("s"), write(f("k/w", 2)), write(f("n/o/p", 1)), write(f("s/t", 1)))
	if got := makes(t, wayOld(), wayNow()); !slices.Equal(got, want) {
		t.Errorf("P22.1: %+v, want %+v", got, want)
	}
}

func TestDirty(t *testing.T) {
	old, now := wayOld(), wayNow()
	for _, c := range []struct {
		name  string
		files []api.File
		want  []string
	}{
		{"nothing", old, nil},
		// otherwise, at a path that is deleted or written, or at none
		{"otherwise, deleted", with(old, f("d/x", 2)), ps("d/x")},
		{"otherwise, deleted, by its size", with(old, api.File{Path: "d/x", Blob: 1, Size: 2}), ps("d/x")},
		{"otherwise, deleted, by a text", with(old, api.File{Path: "d/x", Blob: 1, Size: 1, Text: "x"}), ps("d/x")},
		{"otherwise, deleted below a directory that goes", with(old, f("g/h/i", 2)), ps("g/h/i")},
		{"otherwise, written", with(old, f("k/w", 3)), ps("k/w")},
		{"otherwise, as now", with(old, f("k/w", 2)), ps("k/w")},
		{"otherwise, a directory comes there", with(old, f("s", 2)), ps("s")},
		{"otherwise, at none", with(old, f("d/y", 2), f("k/z", 3)), nil},
		// gone
		{"gone, deleted", lacking(old, "d/x"), ps("d/x")},
		{"gone, deleted below a directory that goes", lacking(old, "g/h/i"), ps("g/h/i")},
		{"gone, written", lacking(old, "k/w"), ps("k/w")},
		{"gone, a directory comes there", lacking(old, "s"), ps("s")},
		{"gone, at none", lacking(old, "d/y", "k/z"), nil},
		{"gone, all", nil, ps("d/x", "g/h/i", "k/w", "s")},
		// besides
		{"besides, at a path that is written", with(old, f("n/o/p", 1)), ps("n/o/p")},
		{"besides, at a path that is written, otherwise", with(old, f("n/o/p", 2)), ps("n/o/p")},
		{"besides, where a directory comes", with(old, f("n", 1)), ps("n")},
		{"besides, where a directory comes, deeper", with(old, f("n/o", 1)), ps("n/o")},
		{"besides, above what is written", with(old, f("k", 1)), ps("k")},
		{"besides, above what is deleted", with(old, f("d", 1)), ps("d")},
		{"besides, below what is written", with(old, f("k/w/a", 1), f("k/w/a/b/c", 1)), ps("k/w/a", "k/w/a/b/c")},
		{"besides, below what will be written", with(old, f("n/o/p/q", 1)), ps("n/o/p/q")},
		{"besides, below what is deleted", with(old, f("d/x/a", 1), f("d/x/a/b/c", 1)), ps("d/x/a", "d/x/a/b/c")},
		{"besides, where a directory goes", with(old, f("g", 1)), ps("g")},
		{"besides, where a directory goes, deeper", with(old, f("g/h", 1)), ps("g/h")},
		{"besides, below a directory that goes", with(old, f("g/a", 1), f("g/z/z", 1)), ps("g/a", "g/z/z")},
		{"besides, below a directory that goes, deeper", with(old, f("g/h/a", 1), f("g/h/i-", 1), f("g/h/z/z", 1)), ps("g/h/a", "g/h/i-", "g/h/z/z")},
		{"besides, below a directory that comes", with(old, f("n/a", 1), f("n/o/a", 1), f("n/z/z", 1)), nil},
		{"besides, below a file that a directory takes the place of", with(old, f("s/a", 1), f("s/t/u", 1)), ps("s/a", "s/t/u")},
		{"besides, in a directory that stays", with(old, f("d/a", 1), f("d/x-", 1), f("d/xx", 1), f("d/z/z", 1), f("k/a", 1)), nil},
		{"besides, at none", with(old, f("a", 1), f("d-", 1), f("d-/x", 1), f("da/x", 1), f("g-/h", 1), f("gg", 1), f("h", 1), f("s-", 1), f("ss/t", 1), f("z/z", 1)), nil},
		// a file in place of a directory, a directory in place of a file
		{"a file for a directory", with(lacking(old, "d/x", "d/y"), f("d", 1)), ps("d", "d/x")},
		{"a file for a directory that goes", with(lacking(old, "g/h/i"), f("g/h", 1)), ps("g/h", "g/h/i")},
		{"a directory for a file", with(lacking(old, "s"), f("s/t", 1)), ps("s", "s/t")},
		{"a directory for a file at none", with(lacking(old, "k/z"), f("k/z/a", 1)), nil},
		// several
		{"now's files", now, ps("d/x", "g/h/i", "k/w", "n/o/p", "s", "s/t")},
		{"several", list(f("a", 1), f("d/x", 2), f("g/b", 1), f("n/o", 1), f("n/q", 1), f("s", 1)), ps("d/x", "g/b", "g/h/i", "k/w", "n/o")},
	} {
		if got, e := plan.Dirty(c.files, old, now); !slices.Equal(got, c.want) || e != api.OK {
			t.Errorf("P22.2: %s: %q, %d, want %q", c.name, got, e, c.want)
		}
		dirties(t, c.files, old, now)
		dirties(t, c.files, now, old)
		if got, e := plan.Dirty(c.files, old, old); len(got) != 0 || e != api.OK { // no step
			t.Errorf("P22.2: %s: %q, %d, where there is no step", c.name, got, e)
		}
	}
}

// TestDirtyOfEachPlace has one step of each kind, and each near path changed in each way.
func TestDirtyOfEachPlace(t *testing.T) {
	places := ps("", "/", "a", "a-", "a/", "a/a", "a/b", "a/b-", "a/b/", "a/b//", "a/b/a", "a/b/c", "a/b/c-", "a/b/c/", "a/b/c/d", "a/b/c/d/e", "a/b/cc", "a/b/d", "a/bb", "a/bb/c", "a/c", "aa", "aa/b", "b")
	worlds := [][]api.File{
		nil, bare("a/b/c"), bare("a/b/c", "a/b/d"), bare("a/b/c", "a/c"), bare("a/b"), bare("a"), bare("a/b/c/d"), bare("a/b/d"),
		list(f("a/b/c", 2)), list(f("a", 2)), bare("b"), bare("a/b/c", "b"),
	}
	for _, old := range worlds {
		for _, now := range worlds {
			for _, p := range places {
				dirties(t, append(lacking(old, p), f(p, 7)), old, now)
				dirties(t, append(lacking(old, p), api.File{Path: p}), old, now)
				dirties(t, lacking(old, p), old, now)
				for _, q := range places {
					dirties(t, append(lacking(old, p), f(q, 7), f(p, 8)), old, now)
				}
			}
		}
	}
}

// Files that are no snapshot.

func TestDirtyOfAnyTexts(t *testing.T) {
	old, now := wayOld(), wayNow()
	for _, c := range []struct {
		files []api.File
		want  []string
	}{
		{append(slices.Clone(old), api.File{}), ps("")}, // the empty text is above all; the zero file is a file
		{append([]api.File{{}}, old...), ps("")},
		{append(slices.Clone(old), f("", 3)), ps("")},
		{append(slices.Clone(old), f("/", 1), f("//", 1), f("/d/x", 1)), nil}, // of empty pieces
		{append(slices.Clone(old), f("d/x/", 1)), ps("d/x/")},
		{append(slices.Clone(old), f("d/x//", 1), f("d/x/", 1), f("d/x/..", 1), f("d/x/a b", 1)), ps("d/x/", "d/x//", "d/x/..", "d/x/a b")},
		{append(slices.Clone(old), f("d/", 1), f("d//x", 1), f("d/x ", 1), f("d/../d/x", 1), f("./d/x", 1)), nil},
		{append(slices.Clone(old), f("g/", 1), f("g//h", 1), f("g/h/", 1), f("g/..", 1), f("g ", 1)), ps("g/", "g//h", "g/..", "g/h/")},
		{append(slices.Clone(old), f("k/w/\xff\x00", 1), f("k/w\xff", 1), f("é", 1)), ps("k/w/\xff\x00")},
		{append(slices.Clone(old), f("n/", 1), f("n/o/", 1), f("n/o/p/", 1)), ps("n/o/p/")},
		{append(slices.Clone(old), f("s"+strings.Repeat("/s", 99), 1), f("s/"+strings.Repeat("s", 999), 1)), ps("s"+strings.Repeat("/s", 99), "s/"+strings.Repeat("s", 999))},
		{append(slices.Clone(old), api.File{Path: "k/TARGETS", Text: "x"}, api.File{Path: "g/TARGETS", Size: -1}), ps("g/TARGETS")},
		{with(old, api.File{Path: "k/w", Text: "x", Blob: -1, Size: -1}), ps("k/w")},
	} {
		if got, e := plan.Dirty(c.files, old, now); !slices.Equal(got, c.want) || e != api.OK {
			t.Errorf("P22.2: %+v: %q, %d, want %q", c.files, got, e, c.want)
		}
		dirties(t, c.files, old, now)
		dirties(t, c.files, now, old)
		if got, e := plan.Dirty(c.files, nil, nil); len(got) != 0 || e != api.OK {
			t.Errorf("P22.2: %+v: %q, %d, where there is no step", c.files, got, e)
		}
	}
}

// TestDirtyOfPathsThatStandTwice: the first file counts, wherever it stands.
func TestDirtyOfPathsThatStandTwice(t *testing.T) {
	old, now := wayOld(), wayNow()
	right, wrong, wrong2 := f("d/x", 1), f("d/x", 2), api.File{}
	rest := lacking(old, "d/x")
	for _, c := range []struct {
		files []api.File
		want  []string
	}{
		{slices.Concat(list(right), rest, list(wrong)), nil},
		{slices.Concat(rest, list(right, wrong)), nil},
		{slices.Concat(rest, list(right, wrong, right)), nil},
		{slices.Concat(list(wrong), rest, list(right)), ps("d/x")},
		{slices.Concat(rest, list(wrong, right)), ps("d/x")},
		{slices.Concat(rest, list(wrong, right, right)), ps("d/x")},
		{slices.Concat(rest, list(wrong, wrong, wrong)), ps("d/x")},
		{slices.Concat(rest, list(right, right, right)), nil},
		{slices.Concat(old, old, old), nil},
		{slices.Concat(old, now), ps("n/o/p", "s/t")},
		{slices.Concat(now, old), ps("k/w", "n/o/p", "s/t")},
		{slices.Concat(list(wrong2), old, list(wrong2)), ps("")},
		{slices.Concat(old, list(f("g/a", 1), f("d/x/a", 1), f("g/a", 2), f("d/x/a", 1))), ps("d/x/a", "g/a")},
	} {
		if got, e := plan.Dirty(c.files, old, now); !slices.Equal(got, c.want) || e != api.OK {
			t.Errorf("P22.2: %+v: %q, %d, want %q", c.files, got, e, c.want)
		}
		dirties(t, c.files, old, now)
	}
}

// TestDirtyOfUnsortedFiles: the order of the files plays no part, that of the answer is of paths.
func TestDirtyOfUnsortedFiles(t *testing.T) {
	old := bare("a/x", "a-/x", "a./x", "a0/x", "ab/x", "b")
	var files []api.File
	for _, p := range ps("b/c", "b", "ab/x", "ab", "a0/x/y", "a0/b", "a./-", "a-/x", "a-/-", "a-", "a/x/y", "a/x-", "a/0", "a/-", "a", "") {
		files = append(files, f(p, 5))
	}
	want := ps("", "a", "a/-", "a/0", "a/x", "a/x/y", "a/x-", "a-", "a-/-", "a-/x", "a./-", "a./x", "a0/b", "a0/x", "a0/x/y", "ab", "ab/x", "b", "b/c")
	r := rand.New(rand.NewSource(7))
	for range 200 {
		if got, e := plan.Dirty(files, old, nil); !slices.Equal(got, want) || e != api.OK {
			t.Fatalf("P22.2: %+v: %q, %d, want %q", files, got, e, want)
		}
		dirties(t, files, old, nil)
		r.Shuffle(len(files), func(i, j int) { files[i], files[j] = files[j], files[i] })
	}
	old, now := wayOld(), wayNow()
	slices.Reverse(old)
	if got, e := plan.Dirty(old, wayOld(), now); len(got) != 0 || e != api.OK {
		t.Errorf("P22.2: old's files the other way round: %q, %d", got, e)
	}
}

// TestDirtyOfManyFiles has more files than a snapshot may have, and as many paths in the way.
func TestDirtyOfManyFiles(t *testing.T) {
	old, now := numbered(512), list(f("m/x", 1))
	var files []api.File
	var want []string
	const most = 150000
	for i := range most {
		p := fmt.Sprintf("n%02d/%02d/%05d", i%16, i/16%80, i)
		files = append(files, f(p, i))
		if i%16 < 8 { // n00 to n07 go
			want = append(want, p)
		}
	}
	want = rising(append(want, pathsOf(old)...))
	got, e := plan.Dirty(files, old, now)
	if !slices.Equal(got, want) || e != api.OK {
		t.Errorf("P22.2: %d paths, %d, want %d", len(got), e, len(want))
	}
	files = append(slices.Clone(old), make([]api.File, most)...)
	if got, e := plan.Dirty(files, old, now); !slices.Equal(got, ps("")) || e != api.OK {
		t.Errorf("P22.2: %q, %d, want the root alone", got, e)
	}
	for i := range files {
		files[i] = old[i%len(old)]
	}
	if got, e := plan.Dirty(files, old, now); len(got) != 0 || e != api.OK {
		t.Errorf("P22.2: %q, %d", got, e)
	}
}

// TestDirtyOfLongTexts: of many empty pieces, and of one piece.
func TestDirtyOfLongTexts(t *testing.T) {
	old, now := wayOld(), wayNow()
	slashes, letters := strings.Repeat("/", 1<<20), strings.Repeat("d", 1<<20)
	files := append(slices.Clone(old), f(slashes, 1), f(letters, 1), f("d/x"+slashes, 1), f("d/x/"+letters, 1), f("d/x"+strings.Repeat("/x", 1<<19), 1), f("g"+slashes+letters, 1))
	want := ps("d/x"+slashes, "d/x/"+letters, "d/x"+strings.Repeat("/x", 1<<19), "g"+slashes+letters)
	if got, e := plan.Dirty(files, old, now); !slices.Equal(got, want) || e != api.OK {
		t.Errorf("P22.2: %d paths, %d, want %d", len(got), e, len(want))
	}
}

// All small worlds, and drawn ones.

func TestDirtyOfAllSmallWorlds(t *testing.T) {
	all := smallSnapshots(2, "a", "a/b", "a/b/c", "a/d")
	var lists [][]api.File
	for set := range 1 << 8 {
		var l []api.File
		for i, p := range ps("a/b/e", "a/d", "a/b/c", "a/b", "a/b/c/d", "", "a", "a/e") {
			if set>>i&1 == 1 {
				l = append(l, f(p, 0))
			}
		}
		lists = append(lists, l)
	}
	for _, old := range all {
		for _, now := range all {
			for _, files := range lists {
				dirties(t, files, old, now)
			}
			for _, files := range all {
				quiet(t, files, old, now)
			}
		}
	}
}

// quiet: P22.4's last sentence, by its own words.
func quiet(t *testing.T, files, old, now []api.File) {
	t.Helper()
	if len(dirties(t, files, old, now)) > 0 {
		return
	}
	for _, s := range makes(t, old, now) {
		touches := s.Kind == api.Write || s.Kind == api.Delete
		if touches && !same(at(files, s.Path), at(old, s.Path)) {
			t.Fatalf("P22.4: %+v, %+v, %+v: nothing is in the way, but %q was changed by hand", files, old, now, s.Path)
		}
		for _, p := range pathsOf(files) {
			near := touches && (above(p, s.Path) || above(s.Path, p)) || s.Kind == api.Rmdir && above(s.Path, p)
			if near && at(old, p) == nil {
				t.Fatalf("P22.4: %+v, %+v, %+v: nothing is in the way, but %q is there", files, old, now, p)
			}
		}
	}
}

func TestDirtyOfDrawnWorlds(t *testing.T) {
	r := rand.New(rand.NewSource(222))
	quietOnes, loud := 0, 0
	for i := range 12000 {
		depth := 1 + i%4
		old := someSnapshot(r, r.Intn(3+i%12), depth)
		now := turned(r, old, 1+r.Intn(4), depth)
		if i%3 == 0 {
			now = someSnapshot(r, r.Intn(3+i%12), depth)
		}
		files := turned(r, old, r.Intn(4), depth)
		if i%2 == 0 {
			files = spoiled(r, files, 1+r.Intn(5))
		}
		quiet(t, files, old, now)
		if len(dirties(t, files, old, now)) == 0 {
			quietOnes++
		} else {
			loud++
		}
		if i%10 == 0 { // where old and now may be no snapshots either
			dirties(t, files, spoiled(r, old, r.Intn(2)), spoiled(r, now, r.Intn(2)))
			makes(t, spoiled(r, old, r.Intn(2)), spoiled(r, now, r.Intn(2)))
		}
	}
	if min(quietOnes, loud) < 1000 {
		t.Errorf("%d worlds in which nothing is in the way, %d others", quietOnes, loud)
	}
}
