package plan_test

import (
	"math/rand"
	"regexp"
	"slices"
	"strings"
	"testing"

	"copse/api"
	"copse/plan"
	"copse/tree"
)

// f is a file, target a manifest.
func f(p string, n int) api.File { return api.File{Path: p, Blob: n, Size: 1} }

func target(p, text string) api.File { return api.File{Path: p, Text: text, Size: len(text)} }

// list, ps and plans are for lines that would be too long.
func list(l ...api.File) []api.File { return l }

func ps(l ...string) []string { return l }

func plans(l ...api.Step) []api.Step { return l }

func remove(p string) api.Step  { return api.Step{Kind: 1, Path: p} }
func rmdir(p string) api.Step   { return api.Step{Kind: 2, Path: p} }
func mkdir(p string) api.Step   { return api.Step{Kind: 3, Path: p} }
func write(x api.File) api.Step { return api.Step{Kind: 4, Path: x.Path, File: x} }

// bare are files that are nothing but their paths.
func bare(paths ...string) []api.File {
	var l []api.File
	for _, p := range paths {
		l = append(l, api.File{Path: p})
	}
	return l
}

// The oracle: the chapter's words, asked path by path; it calls none of the program's layers.

var component = regexp.MustCompile(`^[a-zA-Z0-9._-]{1,32}$`)

func goodPath(p string) bool {
	pieces := strings.Split(p, "/")
	for _, c := range pieces {
		if !component.MatchString(c) || c == "." || c == ".." || c == "..." {
			return false
		}
	}
	return len(p) <= 120 && len(pieces) <= 12
}

func goodFile(x api.File) bool {
	if x.Path == "TARGETS" || strings.HasSuffix(x.Path, "/TARGETS") {
		return x.Blob == 0 && x.Size == len(x.Text)
	}
	return x.Text == "" && 0 <= x.Blob && x.Blob <= 1<<60 && 0 <= x.Size && x.Size <= 1<<62
}

func byPieces(a, b string) int {
	return slices.Compare(strings.Split(a, "/"), strings.Split(b, "/"))
}

// above: of any texts.
func above(a, b string) bool {
	if a == "" {
		return b != ""
	}
	return strings.HasPrefix(b, a+"/")
}

// snapFault holds every file against every other one.
func snapFault(l []api.File) api.Errno {
	for _, x := range l {
		if !goodPath(x.Path) {
			return api.ErrPath
		}
	}
	for i, x := range l {
		if !goodFile(x) || i == 512 {
			return api.ErrSnap
		}
		for _, y := range l[i+1:] {
			if byPieces(x.Path, y.Path) >= 0 || above(x.Path, y.Path) {
				return api.ErrSnap
			}
		}
	}
	return api.OK
}

// fault is what both Make and Dirty are answered of files that are no snapshot.
func fault(old, now []api.File) api.Errno {
	if e := snapFault(old); e != api.OK {
		return e
	}
	return snapFault(now)
}

// at is the first file at a path, if there is one.
func at(l []api.File, p string) *api.File {
	for i := range l {
		if l[i].Path == p {
			return &l[i]
		}
	}
	return nil
}

func same(x, y *api.File) bool {
	return x == nil && y == nil || x != nil && y != nil && *x == *y
}

// dirsOf are the directories of files, in no order that counts.
func dirsOf(l []api.File) []string {
	var dirs []string
	for _, x := range l {
		for i := range len(x.Path) {
			if x.Path[i] == '/' && !slices.Contains(dirs, x.Path[:i]) {
				dirs = append(dirs, x.Path[:i])
			}
		}
	}
	return dirs
}

// rising and falling give texts in an order of their own list, each once.
func rising(l []string) []string {
	l = slices.Clone(l)
	slices.SortFunc(l, byPieces)
	return slices.Compact(l)
}

func falling(l []string) []string {
	l = slices.Clone(l)
	slices.SortFunc(l, func(a, b string) int { return byPieces(b, a) })
	return slices.Compact(l)
}

func pathsOf(l []api.File) []string {
	var out []string
	for _, x := range l {
		out = append(out, x.Path)
	}
	return out
}

// stepsOf is what Make must answer of two snapshots.
func stepsOf(old, now []api.File) []api.Step {
	oldDirs, nowDirs := dirsOf(old), dirsOf(now)
	var l []api.Step
	for _, p := range falling(pathsOf(old)) {
		if at(now, p) == nil {
			l = append(l, remove(p))
		}
	}
	for _, d := range falling(oldDirs) {
		if !slices.Contains(nowDirs, d) {
			l = append(l, rmdir(d))
		}
	}
	for _, d := range rising(nowDirs) {
		if !slices.Contains(oldDirs, d) {
			l = append(l, mkdir(d))
		}
	}
	for _, p := range rising(pathsOf(now)) {
		if x := at(now, p); !same(x, at(old, p)) {
			l = append(l, write(*x))
		}
	}
	return l
}

// blocks: is a path that was changed by hand in the way of a step?
func blocks(p string, s api.Step) bool {
	switch s.Kind {
	case 1, 4:
		return p == s.Path || above(p, s.Path) || above(s.Path, p)
	case 2:
		return p == s.Path || above(s.Path, p)
	}
	return false
}

// dirtyOf is what Dirty must answer, if old and now are snapshots.
func dirtyOf(files, old, now []api.File) []string {
	steps := stepsOf(old, now)
	var dirty []string
	for _, p := range rising(append(pathsOf(files), pathsOf(old)...)) {
		if same(at(files, p), at(old, p)) {
			continue
		}
		if slices.ContainsFunc(steps, func(s api.Step) bool { return blocks(p, s) }) {
			dirty = append(dirty, p)
		}
	}
	return dirty
}

// Checks against it.

func makes(t *testing.T, old, now []api.File) []api.Step {
	t.Helper()
	want, fault := []api.Step(nil), fault(old, now)
	if fault == api.OK {
		want = stepsOf(old, now)
	}
	got, e := plan.Make(old, now)
	if !slices.Equal(got, want) || e != fault {
		t.Fatalf("P22.1: Make(%+v, %+v): %+v, %d, want %+v, %d", old, now, got, e, want, fault)
	}
	return got
}

func dirties(t *testing.T, files, old, now []api.File) []string {
	t.Helper()
	want, fault := []string(nil), fault(old, now)
	if fault == api.OK {
		want = dirtyOf(files, old, now)
	}
	got, e := plan.Dirty(files, old, now)
	if !slices.Equal(got, want) || e != fault {
		t.Fatalf("P22.2: Dirty(%+v, %+v, %+v): %q, %d, want %q, %d", files, old, now, got, e, want, fault)
	}
	return got
}

func grown(t *testing.T, l []api.File) *tree.Tree {
	t.Helper()
	x, e := tree.New(l)
	if x == nil || e != api.OK {
		t.Fatalf("New(%+v): %v, %d", l, x, e)
	}
	return x
}

// holds: are there just these files, and just these directories?
func holds(t *testing.T, promise string, x *tree.Tree, files []api.File, dirs []string) {
	t.Helper()
	if !slices.Equal(x.Files(), files) || !slices.Equal(x.Dirs(), dirs) {
		t.Fatalf("%s: %+v, %q, want %+v, %q", promise, x.Files(), x.Dirs(), files, dirs)
	}
}

func plays(t *testing.T, promise string, x *tree.Tree, want api.Errno, heard int, steps ...api.Step) {
	t.Helper()
	before := x.Steps()
	if e := plan.Play(x, steps); e != want || x.Steps() != before+heard {
		t.Fatalf("%s: Play(%+v): %d, and %d steps were heard, want %d, %d", promise, steps, e, x.Steps()-before, want, heard)
	}
}

// Drawn worlds.

// names part at signs below and above '/', and some are the beginning of others.
var names = []string{"a", "a-", "a.", "a0", "aA", "a_", "ab", "b", "B", "TARGETS"}

// somePath is a path of few names, so that they meet often.
func somePath(r *rand.Rand, most int) string {
	pieces := make([]string, 1+r.Intn(most))
	for i := range pieces {
		pieces[i] = names[r.Intn(len(names))]
		if r.Intn(2) == 0 {
			pieces[i] = names[r.Intn(2)]
		}
	}
	return strings.Join(pieces, "/")
}

// someFile is a file that may be; at one path there are few unlike ones.
func someFile(r *rand.Rand, p string) api.File {
	if p == "TARGETS" || strings.HasSuffix(p, "/TARGETS") {
		return target(p, []string{"", "x", "y"}[r.Intn(3)])
	}
	return api.File{Path: p, Blob: r.Intn(2), Size: r.Intn(2)}
}

// fits gives a file a place in a snapshot: what is at its path, above or below goes.
func fits(l []api.File, x api.File) []api.File {
	l = slices.DeleteFunc(slices.Clone(l), func(y api.File) bool {
		return y.Path == x.Path || above(x.Path, y.Path) || above(y.Path, x.Path)
	})
	l = append(l, x)
	slices.SortFunc(l, func(x, y api.File) int { return byPieces(x.Path, y.Path) })
	return l
}

func someSnapshot(r *rand.Rand, files, depth int) []api.File {
	var l []api.File
	for range files {
		l = fits(l, someFile(r, somePath(r, depth)))
	}
	return l
}

// turned changes a snapshot at some places into another one.
func turned(r *rand.Rand, l []api.File, times, depth int) []api.File {
	l = slices.Clone(l)
	for range times {
		switch k := r.Intn(4); {
		case k == 0 && len(l) > 0:
			i := r.Intn(len(l))
			l = slices.Delete(l, i, i+1)
		case k == 1 && len(l) > 0:
			l = fits(l, someFile(r, l[r.Intn(len(l))].Path))
		case k == 2 && len(l) > 0: // above one or below one
			p := l[r.Intn(len(l))].Path
			if i := strings.LastIndexByte(p, '/'); i > 0 && r.Intn(2) == 0 {
				p = p[:i]
			} else if strings.Count(p, "/") < 8 {
				p += "/" + names[r.Intn(len(names))]
			}
			l = fits(l, someFile(r, p))
		default:
			l = fits(l, someFile(r, somePath(r, depth)))
		}
	}
	return l
}

// spoiled are files of any kind: some of them are no paths, stand twice or out of their order.
func spoiled(r *rand.Rand, l []api.File, times int) []api.File {
	l = slices.Clone(l)
	for range times {
		x := someFile(r, somePath(r, 3))
		switch r.Intn(6) {
		case 0:
			x = api.File{Path: []string{"", "/", "a/", "/a", "a//b", "..", "a/..", "a b", "//"}[r.Intn(9)], Blob: r.Intn(2)}
		case 1:
			x.Text, x.Size = "zz", -1
		case 2, 3:
			if len(l) > 0 {
				x = someFile(r, l[r.Intn(len(l))].Path)
			}
		}
		l = slices.Insert(l, r.Intn(len(l)+1), x)
	}
	r.Shuffle(len(l)*r.Intn(2), func(i, j int) { l[i], l[j] = l[j], l[i] })
	return l
}
