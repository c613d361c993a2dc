package journal_test

import (
	"math/rand"
	"slices"
	"strings"
	"testing"

	"copse/api"
	"copse/journal"
	"copse/tree"
)

// twin is a tree and its model, to which the same is done.
type twin struct {
	t *testing.T
	x *tree.Tree
	m *model
}

func begin(t *testing.T, l ...api.File) *twin {
	t.Helper()
	x, e := tree.New(l)
	if x == nil || e != api.OK {
		t.Fatalf("New(%+v): %d", l, e)
	}
	return &twin{t, x, modelOf(l...)}
}

func ask(x *tree.Tree) told { return told{x.Files(), x.Dirs(), x.Journal(), x.Steps()} }

// hand changes both by hand, with steps of a plan; the directories above are made too.
func (w *twin) hand(steps ...api.Step) *twin {
	w.t.Helper()
	for _, s := range steps {
		for _, d := range over(s.Path) {
			if !w.m.isDir(d) {
				w.byHand(mkdir(d))
			}
		}
		w.byHand(s)
	}
	return w
}

func (w *twin) byHand(s api.Step) {
	w.t.Helper()
	var got, want api.Errno
	switch s.Kind {
	case 1:
		got, want = w.x.Delete(s.Path), w.m.remove(s.Path)
	case 2:
		got, want = w.x.Rmdir(s.Path), w.m.rmdir(s.Path)
	case 3:
		got, want = w.x.Mkdir(s.Path), w.m.mkdir(s.Path)
	case 4:
		got, want = w.x.Write(s.File), w.m.write(s.File)
	}
	if got != want || got != api.OK {
		w.t.Fatalf("by hand: %+v: %d, %d", s, got, want)
	}
}

// dirs makes directories by hand.
func (w *twin) dirs(l ...string) *twin {
	w.t.Helper()
	for _, d := range l {
		w.hand(mkdir(d))
	}
	return w
}

// journal lengthens both journals by hand.
func (w *twin) journal(b ...byte) *twin {
	w.x.Append(b)
	w.m.lengthen(b)
	return w
}

// stop stops both at the n-th step from now on.
func (w *twin) stop(n int) *twin {
	w.x.Stop(n)
	w.m.stop = 0
	if n > 0 {
		w.m.stop = w.m.steps + n
	}
	return w
}

// crashed goes on with what a crash leaves; without a step that was stopped that is a copy.
func (w *twin) crashed(keep int) *twin { return &twin{w.t, w.x.Crash(keep), w.m.crash(keep)} }

// goes is Go on both.
func (w *twin) goes(old, now []api.File) api.Errno {
	w.t.Helper()
	before := ask(w.x)
	got, want := journal.Go(w.x, old, now), w.m.goes(old, now)
	if got != want {
		w.t.Fatalf("P23.2: Go from %+v to %+v: %d, want %d, of %+v", old, now, got, want, before)
	}
	w.holds("P23.2: Go", before)
	return want
}

// refuses: Go is answered an error, and no step is done.
func (w *twin) refuses(e api.Errno, old, now []api.File) {
	w.t.Helper()
	before := ask(w.x)
	if got := w.goes(old, now); got != e || !ask(w.x).is(before) {
		w.t.Fatalf("P23.2: Go from %+v to %+v: %d, want %d, of %+v: %+v", old, now, got, e, before, ask(w.x))
	}
}

// recovers is Recover on both.
func (w *twin) recovers() api.Errno {
	w.t.Helper()
	before := ask(w.x)
	got, want := journal.Recover(w.x), w.m.recovers()
	if got != want {
		w.t.Fatalf("P23.3: Recover: %d, want %d, of %+v", got, want, before)
	}
	w.holds("P23.3: Recover", before)
	return want
}

func (w *twin) holds(call string, before told) {
	w.t.Helper()
	if got, want := ask(w.x), w.m.told(); !got.is(want) {
		w.t.Fatalf("%s: %+v, want %+v, it was %+v", call, got, want, before)
	}
}

// has: are there just these files, directories and bytes, and how many steps were counted?
func (w *twin) has(promise string, files []api.File, dirs []string, journal []byte, steps int) {
	w.t.Helper()
	if got, want := ask(w.x), (told{files, dirs, journal, steps}); !got.is(want) {
		w.t.Fatalf("%s: %+v, want %+v", promise, got, want)
	}
}

// answers: what a call was answered.
func answers(t *testing.T, promise string, got, want api.Errno) {
	t.Helper()
	if got != want {
		t.Fatalf("%s: %d, want %d", promise, got, want)
	}
}

// noSnapshots are lists that are none, with what snap.Valid answers.
type badList struct {
	l []api.File
	e api.Errno
}

func noSnapshots() []badList {
	var out []badList
	add := func(e api.Errno, l ...api.File) { out = append(out, badList{l, e}) }
	for _, p := range ps("", "/", "/a", "a/", "a//b", ".", "a/..", "...", "a b", "é", strings.Repeat("c", 33), strings.Repeat("d/", 12)+"f") {
		add(api.ErrPath, f(p, 1))
		add(api.ErrPath, f("b", 1), f(p, 1), f("a", 1))
		add(api.ErrPath, api.File{Path: "b", Size: -1}, f(p, 1))
	}
	add(api.ErrPath, append(numbered(513), f("", 1))...)
	add(api.ErrSnap, f("b", 1), f("a", 1))
	add(api.ErrSnap, f("a", 1), f("a", 1))
	add(api.ErrSnap, f("a", 1), f("a", 2))
	add(api.ErrSnap, f("a", 1), f("a/b", 1))
	add(api.ErrSnap, f("a/b/c", 1), f("a", 1))
	add(api.ErrSnap, f("a-", 1), f("a/b", 1))
	add(api.ErrSnap, f("b", 1), api.File{Path: "c", Text: "x", Size: 1})
	add(api.ErrSnap, api.File{Path: "a", Blob: -1})
	add(api.ErrSnap, api.File{Path: "a", Blob: 1<<60 + 1})
	add(api.ErrSnap, api.File{Path: "a", Size: -1})
	add(api.ErrSnap, api.File{Path: "a", Size: 1<<62 + 1})
	add(api.ErrSnap, api.File{Path: "a/TARGETS", Text: "x", Size: 2})
	add(api.ErrSnap, api.File{Path: "TARGETS", Text: "x", Size: 1, Blob: 1})
	add(api.ErrSnap, numbered(513)...)
	return out
}

// numbered are n files, rising, in some directories.
func numbered(n int) []api.File {
	var l []api.File
	for i := range n {
		p := []byte("n0/00")
		p[1] += byte(i / 100)
		p[3] += byte(i / 10 % 10)
		p[4] += byte(i % 10)
		l = append(l, f(string(p), i))
	}
	return l
}

// Drawn worlds.

// names part at signs below and above '/', and some are the beginning of others.
var names = []string{"a", "a-", "a.", "a0", "aA", "a_", "ab", "b", "B", "TARGETS"}

// somePath is a path of few names, so that they meet often.
func somePath(r *rand.Rand, most int) string {
	pieces := make([]string, 1+r.Intn(most))
	for i := range pieces {
		pieces[i] = names[r.Intn(len(names))]
		if r.Intn(2) == 0 {
			pieces[i] = names[r.Intn(2)]
		}
	}
	return strings.Join(pieces, "/")
}

// someFile is a file that may be; at one path there are few unlike ones.
func someFile(r *rand.Rand, p string) api.File {
	if p == "TARGETS" || strings.HasSuffix(p, "/TARGETS") {
		return target(p, []string{"", "x", "y"}[r.Intn(3)])
	}
	return api.File{Path: p, Blob: r.Intn(2), Size: r.Intn(2)}
}

// fits gives a file a place in a snapshot: what is at its path, above or below goes.
func fits(l []api.File, x api.File) []api.File {
	l = slices.DeleteFunc(slices.Clone(l), func(y api.File) bool {
		return y.Path == x.Path || above(x.Path, y.Path) || above(y.Path, x.Path)
	})
	l = append(l, x)
	slices.SortFunc(l, func(x, y api.File) int { return byPieces(x.Path, y.Path) })
	return l
}

func someSnapshot(r *rand.Rand, files, depth int) []api.File {
	var l []api.File
	for range files {
		l = fits(l, someFile(r, somePath(r, depth)))
	}
	return l
}

// nearPath is a path of a snapshot, or one above, below or beside it.
func nearPath(r *rand.Rand, l []api.File, depth int) string {
	if len(l) == 0 || r.Intn(4) == 0 {
		return somePath(r, depth)
	}
	p := l[r.Intn(len(l))].Path
	switch i := strings.LastIndexByte(p, '/'); {
	case i > 0 && r.Intn(3) == 0:
		return p[:i]
	case i > 0 && r.Intn(3) == 0:
		return p[:i+1] + names[r.Intn(len(names))]
	case strings.Count(p, "/") < 6 && r.Intn(3) == 0:
		return p + "/" + names[r.Intn(len(names))]
	}
	return p
}

// turned changes a snapshot at some places into another one.
func turned(r *rand.Rand, l []api.File, times, depth int) []api.File {
	l = slices.Clone(l)
	for range times {
		if len(l) > 0 && r.Intn(4) == 0 {
			i := r.Intn(len(l))
			l = slices.Delete(l, i, i+1)
			continue
		}
		l = fits(l, someFile(r, nearPath(r, l, depth)))
	}
	return l
}

// spoiled does some steps by hand, near the files of both views; those that the tree would refuse are left out.
func (w *twin) spoiled(r *rand.Rand, times int, views ...[]api.File) {
	w.t.Helper()
	near := slices.Concat(views...)
	for range times {
		p := nearPath(r, near, 3)
		switch {
		case w.m.isFile(p) && r.Intn(2) == 0:
			w.hand(remove(p))
		case w.m.isFile(p):
			w.hand(write(someFile(r, p)))
		case w.m.isDir(p) && w.m.isEmpty(p):
			w.hand(rmdir(p))
		case w.m.isDir(p) || slices.ContainsFunc(over(p), w.m.isFile):
		case r.Intn(2) == 0:
			w.hand(mkdir(p))
		default:
			w.hand(write(someFile(r, p)))
		}
	}
}

// someWorld draws a tree and the views that it goes between.
func someWorld(t *testing.T, r *rand.Rand, files, times, byHand int) (w *twin, old, now []api.File) {
	t.Helper()
	old = someSnapshot(r, files, 3)
	now = turned(r, old, times, 3)
	w = begin(t, old...)
	w.spoiled(r, byHand, old, now)
	return w, old, now
}
