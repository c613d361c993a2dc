package tree_test

import (
	"bytes"
	"fmt"
	"math"
	"slices"
	"strings"
	"testing"

	"copse/api"
	"copse/tree"
)

// is: does a tree tell just this?
func is(t *testing.T, promise string, x *tree.Tree, files []api.File, dirs []string, journal []byte) {
	t.Helper()
	if got := ask(x); !got.is(told{files, dirs, journal, got.steps}) {
		t.Errorf("%s: %+v, want %+v, %q, %d", promise, got, files, dirs, journal)
	}
}

func answers(t *testing.T, promise string, x *tree.Tree, want api.Errno, steps ...step) {
	t.Helper()
	for _, s := range steps {
		if e := s.on(x); e != want {
			t.Errorf("%s: %v: %d, want %d", promise, s, e, want)
		}
	}
}

// noPaths are no paths, each for its own reason. Ahead of some of them their directory may be there.
func noPaths() []string {
	return []string{
		"/", "//", "a/", "/a", "a//c", ".", "..", "...", "a/.", "a/..", "a/...", "a b", "a:b", " ", "é", "a/\xff", "a\x00", "\n", "*",
		strings.Repeat("d/", 12) + "f", strings.Repeat("c", 33), "a/" + strings.Repeat("c", 33),
		strings.Repeat(strings.Repeat("c", 29)+"/", 4) + "f", strings.Repeat("/", 1<<16), strings.Repeat("a", 1<<16),
	}
}

// deepest are paths at the limits: as many components, as many bytes as may be.
func deepest() []string {
	return []string{strings.Repeat("d/", 11) + "f", strings.Repeat(strings.Repeat("e", 29)+"/", 3) + strings.Repeat("e", 30), strings.Repeat("c", 32)}
}

// beyond is a text just above a limit at which a path is.
func beyond(p string) string {
	if strings.Contains(p, "/") {
		return p + "/x"
	}
	return p + "x"
}

// noFiles are files that may not be, and what each is answered.
func noFiles() []struct {
	f api.File
	e api.Errno
} {
	l := []struct {
		f api.File
		e api.Errno
	}{
		{api.File{}, api.ErrPath},
		{api.File{Path: "", Blob: 1, Size: 1}, api.ErrPath},
		{api.File{Path: "/", Size: -1}, api.ErrPath},
		{api.File{Path: "a//TARGETS"}, api.ErrPath},
		{api.File{Path: "a", Text: "x"}, api.ErrSnap},
		{api.File{Path: "a", Text: "x", Size: 1}, api.ErrSnap},
		{api.File{Path: "a", Blob: -1}, api.ErrSnap},
		{api.File{Path: "a", Blob: 1<<60 + 1}, api.ErrSnap},
		{api.File{Path: "a", Blob: math.MinInt}, api.ErrSnap},
		{api.File{Path: "a", Size: -1}, api.ErrSnap},
		{api.File{Path: "a", Size: 1<<62 + 1}, api.ErrSnap},
		{api.File{Path: "a", Size: math.MaxInt}, api.ErrSnap},
		{api.File{Path: "TARGETS", Text: "x", Size: 2}, api.ErrSnap},
		{api.File{Path: "TARGETS", Text: "x", Blob: 1, Size: 1}, api.ErrSnap},
		{api.File{Path: "TARGETS", Size: 1}, api.ErrSnap},
		{api.File{Path: "TARGETS/a", Text: "x", Size: 1}, api.ErrSnap},
	}
	for _, p := range noPaths() {
		l = append(l, struct {
			f api.File
			e api.Errno
		}{f(p, 1), api.ErrPath})
	}
	return l
}

// numbered are n files, rising, in some directories.
func numbered(n int) []api.File {
	var l []api.File
	for i := range n {
		l = append(l, f(fmt.Sprintf("n%02d/%02d", i/64, i%64), i))
	}
	return l
}

// The chapter's examples. The second goes on where the first ends.

func TestExamples1And2(t *testing.T) {
	x := grown(t, f("a/b", 1))
	is(t, "P21.1", x, []api.File{f("a/b", 1)}, []string{"a"}, nil)
	answers(t, "P21.2", x, api.ErrTree, mkdir("a"), mkdir("a/b"), mkdir("c/d"), mkdir(""), mkdir("a//c"))
	is(t, "P21.2", x, []api.File{f("a/b", 1)}, []string{"a"}, nil)
	answers(t, "P21.2", x, api.OK, mkdir("c"), mkdir("c/d"))
	is(t, "P21.2", x, []api.File{f("a/b", 1)}, []string{"a", "c", "c/d"}, nil)
	answers(t, "P21.4", x, api.ErrTree, rmdir("c"), rmdir("a"), rmdir("a/b"), rmdir(""), rmdir("x"))
	answers(t, "P21.4", x, api.OK, rmdir("c/d"))
	is(t, "P21.4", x, []api.File{f("a/b", 1)}, []string{"a", "c"}, nil)

	answers(t, "P21.3", x, api.ErrTree, write(f("c", 1)), write(f("x/y", 1)))
	is(t, "P21.3", x, []api.File{f("a/b", 1)}, []string{"a", "c"}, nil)
	answers(t, "P21.3", x, api.OK, write(f("a/b", 2)))
	is(t, "P21.3", x, []api.File{f("a/b", 2)}, []string{"a", "c"}, nil)
	answers(t, "P21.3", x, api.ErrTree, write(f("a/b/c", 1)))
	answers(t, "P21.3", x, api.ErrSnap, write(api.File{Path: "a/e", Size: -1}))
	answers(t, "P21.3", x, api.ErrPath, write(api.File{Path: "/"}))
	answers(t, "P21.4", x, api.ErrTree, remove("a"), remove("x"))
	is(t, "P21.4", x, []api.File{f("a/b", 2)}, []string{"a", "c"}, nil)
	answers(t, "P21.4", x, api.OK, remove("a/b"), rmdir("a"))
	is(t, "P21.4", x, nil, []string{"c"}, nil)
	if x.Steps() != 23 {
		t.Errorf("P21.6: %d steps, want 23", x.Steps())
	}
}

func TestExamples3And4(t *testing.T) {
	x := grown(t)
	answers(t, "P21.5", x, api.OK, lengthen(1, 2), lengthen(3))
	is(t, "P21.5", x, nil, nil, []byte{1, 2, 3})
	answers(t, "P21.5", x, api.OK, empty())
	is(t, "P21.5", x, nil, nil, nil)

	before := x.Steps()
	x.Stop(2)
	answers(t, "P21.6", x, api.OK, lengthen(1))
	answers(t, "P21.6", x, api.ErrDown, lengthen(2, 3, 4), empty())
	if x.Steps() != before+3 {
		t.Errorf("P21.6: %d steps, want three more than %d", x.Steps(), before)
	}
	is(t, "P21.8", x, nil, nil, []byte{1})
	for _, c := range []struct {
		keep int
		want []byte
	}{{0, []byte{1}}, {2, []byte{1, 2, 3}}, {3, []byte{1, 2, 3, 4}}, {4, []byte{1}}, {-1, []byte{1, 2, 3, 4}}} {
		is(t, fmt.Sprintf("P21.7: Crash(%d)", c.keep), x.Crash(c.keep), nil, nil, c.want)
	}
}

func TestExample5(t *testing.T) {
	x := grown(t)
	x.Stop(1)
	answers(t, "P21.6", x, api.ErrDown, mkdir("q"), lengthen(7))
	is(t, "P21.7", x.Crash(1), nil, nil, nil)
}

// P21.1

func TestNew(t *testing.T) {
	for _, c := range []struct {
		files []api.File
		dirs  []string
	}{
		{nil, nil},
		{[]api.File{}, nil},
		{[]api.File{f("a", 1)}, nil},
		{[]api.File{f("a/b", 1)}, []string{"a"}},
		{[]api.File{f("a/b/c/d", 1)}, []string{"a", "a/b", "a/b/c"}},
		{[]api.File{f("a/b/c/d", 1), f("a/b/e", 1), f("a/b-/x", 1), f("a/f/g", 1), f("a-/h", 2), f("b", 1)}, []string{"a", "a/b", "a/b/c", "a/b-", "a/f", "a-"}},
		{[]api.File{f("B/x", 1), target("TARGETS", "xy"), target("a/TARGETS", ""), {Path: "a/b"}, f("ab", 3)}, []string{"B", "a"}},
		{[]api.File{f("TARGETS/x", 3), f("a/TARGETS/TARGETS/y", 4)}, []string{"TARGETS", "a", "a/TARGETS", "a/TARGETS/TARGETS"}},
		{[]api.File{{Path: "a", Blob: 1 << 60, Size: 1 << 62}, {Path: "b", Size: 1 << 62}}, nil},
		{[]api.File{f("d/d/d/d/d/d/d/d/d/d/d/f", 1)}, []string{"d", "d/d", "d/d/d", "d/d/d/d", "d/d/d/d/d", "d/d/d/d/d/d", "d/d/d/d/d/d/d", "d/d/d/d/d/d/d/d", "d/d/d/d/d/d/d/d/d", "d/d/d/d/d/d/d/d/d/d", "d/d/d/d/d/d/d/d/d/d/d"}},
		{numbered(512), []string{"n00", "n01", "n02", "n03", "n04", "n05", "n06", "n07"}},
	} {
		w := begin(t, c.files...)
		is(t, "P21.1", w.x, c.files, c.dirs, nil)
		if w.x.Steps() != 0 {
			t.Errorf("P21.1: %d steps of a new tree", w.x.Steps())
		}
		for range 3 { // not stopped
			w.doesAll("P21.1", api.OK, lengthen(1), empty(), mkdir("zz"), rmdir("zz"))
		}
	}
	for _, p := range deepest() {
		begin(t, f(p, 1))
	}
}

func TestNewRefuses(t *testing.T) {
	refuses := func(want api.Errno, l ...api.File) {
		t.Helper()
		if x, e := tree.New(l); x != nil || e != want {
			t.Errorf("P21.1: New(%+v): %v, %d, want %d", l, x, e, want)
		}
	}
	for _, c := range noFiles() {
		refuses(c.e, c.f)
		refuses(c.e, f("A", 1), c.f)
		if c.e == api.ErrPath { // ahead of all that is ErrSnap
			refuses(c.e, f("b", 1), c.f, f("a", 1))
			refuses(c.e, f("a", 1), f("a", 1), c.f)
			refuses(c.e, api.File{Path: "a", Size: -1}, c.f)
			refuses(c.e, append(numbered(512), c.f)...)
		}
	}
	refuses(api.ErrSnap, f("b", 1), f("a", 1))
	refuses(api.ErrSnap, f("a", 1), f("a", 1))
	refuses(api.ErrSnap, f("a", 1), f("a", 2))
	refuses(api.ErrSnap, f("a", 1), f("a/b", 1))
	refuses(api.ErrSnap, f("a/b", 1), f("a", 1))
	refuses(api.ErrSnap, f("a", 1), f("a/b/c", 1))
	refuses(api.ErrSnap, f("a-", 1), f("a/b", 1))
	refuses(api.ErrSnap, numbered(513)...)
}

// P21.2

// grove has a file and a directory of each kind: empty, with a file, with a directory, with both.
func grove(t *testing.T) *twin {
	t.Helper()
	w := begin(t, f("a/b", 1), f("a/c/d", 2), target("m/TARGETS", "xyz"), f("r", 3), f("s/t/u/v", 4))
	w.doesAll("P21.2", api.OK, mkdir("e"), mkdir("g"), mkdir("g/h"), mkdir("g/h/i"), mkdir("m/j"))
	return w
}

func TestMkdir(t *testing.T) {
	w := grove(t)
	news := []string{"0", "zz", "aa", "a-", "a/0", "a/b-", "a/z", "e/f", "e/f/g", "g/h/i/j", "TARGETS", "a/TARGETS", "s/t/u/w", "....", "A", "_"}
	w.doesAll("P21.2", api.OK, each(mkdir, news...)...)
	for i := range news { // each is empty, and can be taken out again, and made again
		p := news[len(news)-1-i]
		w.doesAll("P21.2", api.OK, rmdir(p), mkdir(p), rmdir(p))
	}
	for _, p := range deepest() {
		for i := range len(p) {
			if p[i] == '/' {
				w.doesAll("P21.2", api.OK, mkdir(p[:i]))
			}
		}
		w.doesAll("P21.2", api.OK, mkdir(p))
		w.doesAll("P21.2", api.ErrTree, mkdir(p), mkdir(beyond(p)), mkdir(beyond(p)+"/x"))
	}
}

func each(kind func(string) step, ps ...string) []step {
	var l []step
	for _, p := range ps {
		l = append(l, kind(p))
	}
	return l
}

func TestMkdirRefuses(t *testing.T) {
	w := grove(t)
	w.doesAll("P21.2", api.ErrTree, mkdir(""))
	w.doesAll("P21.2", api.ErrTree, each(mkdir, noPaths()...)...)
	w.doesAll("P21.2", api.ErrTree, each(mkdir, "a", "e", "g", "g/h", "g/h/i", "m/j", "s/t/u")...)       // directories
	w.doesAll("P21.2", api.ErrTree, each(mkdir, "a/b", "a/c/d", "m/TARGETS", "r", "s/t/u/v")...)         // files
	w.doesAll("P21.2", api.ErrTree, each(mkdir, "x/y", "x/y/z", "a/x/y", "g/i/i", "e/f/g", "zz/zz")...)  // no directory above
	w.doesAll("P21.2", api.ErrTree, each(mkdir, "a/b/c", "r/a", "r/a/b", "m/TARGETS/x", "a/c/d/e/f")...) // a file's
}

// P21.3

func TestWrite(t *testing.T) {
	w := begin(t, f("b", 1), f("d/e", 1), f("d/g", 1), f("h", 1))
	news := []api.File{
		f("a", 5), f("i", 6), f("c", 7), f("d/a", 8), f("d/f", 9), f("d/z", 10), f("d-", 11), // first, last, between
		target("TARGETS", ""), target("d/TARGETS", "target a{}\n"), target("d/TARGETS-", ""), {Path: "0"}, {Path: "_", Blob: 1 << 60, Size: 1 << 62}, f("....", 1),
	}
	for _, g := range news {
		w.doesAll("P21.3", api.OK, write(g))
	}
	for _, g := range append(news, f("b", 1), f("d/e", 1)) { // in place, and the same again
		w.doesAll("P21.3", api.OK, write(g))
		if g.Path != "TARGETS" && g.Path != "d/TARGETS" {
			w.doesAll("P21.3", api.OK, write(api.File{Path: g.Path, Blob: 77, Size: 1}), write(api.File{Path: g.Path, Blob: 77, Size: 2}))
		}
	}
	w.doesAll("P21.3", api.OK, write(target("TARGETS", "\xff\x00")), write(target("d/TARGETS", "target b{}\n")))
	w.doesAll("P21.4", api.ErrTree, rmdir("d"))
	for _, g := range w.x.Files() { // one that was written in place is gone at once
		w.doesAll("P21.4", api.OK, remove(g.Path))
		w.doesAll("P21.4", api.ErrTree, remove(g.Path))
	}
	w.doesAll("P21.4", api.OK, rmdir("d"), write(f("d", 1)))
}

func TestWriteIntoNewDirectories(t *testing.T) {
	w := grove(t)
	w.doesAll("P21.3", api.OK, write(f("e/f", 1)), write(f("g/h/i/j", 1)), write(f("g/a", 1)), write(f("m/j/k", 1)))
	w.doesAll("P21.4", api.ErrTree, rmdir("e"), rmdir("g/h/i"), rmdir("m/j"))
	for _, p := range deepest() {
		for i := range len(p) {
			if p[i] == '/' {
				w.doesAll("P21.2", api.OK, mkdir(p[:i]))
			}
		}
		w.doesAll("P21.3", api.OK, write(f(p, 1)), write(f(p, 2)))
		w.doesAll("P21.3", api.ErrTree, write(f(dirOf(p)+"x/y", 1)))
		w.doesAll("P21.3", api.ErrPath, write(f(beyond(p), 1)), write(f(beyond(p)+"/x", 1)))
	}
}

func TestWriteRefuses(t *testing.T) {
	w := grove(t)
	for _, c := range noFiles() {
		w.doesAll("P21.3", c.e, write(c.f))
	}
	for _, p := range []string{"a", "a/c", "e", "g", "g/h", "g/h/i", "m", "m/j", "s/t/u"} { // directories
		w.doesAll("P21.3", api.ErrTree, write(f(p, 1)), write(api.File{Path: p}))
		w.doesAll("P21.3", api.ErrSnap, write(api.File{Path: p, Size: -1}), write(api.File{Path: p, Text: "x"}))
	}
	for _, p := range []string{"x/y", "x/y/z", "a/x/y", "e/f/g", "a/b/c", "r/s", "r/s/t", "m/TARGETS/x"} { // no directory, or a file in its place
		w.doesAll("P21.3", api.ErrTree, write(f(p, 1)))
		w.doesAll("P21.3", api.ErrSnap, write(api.File{Path: p, Blob: -1}))
		w.doesAll("P21.3", api.ErrTree, write(target(p+"/TARGETS", "x")))
		w.doesAll("P21.3", api.ErrSnap, write(api.File{Path: p + "/TARGETS", Size: 9}))
	}
	for _, p := range []string{"a/b", "r", "m/TARGETS"} { // what would be written in place of a file stays away too
		w.doesAll("P21.3", api.ErrSnap, write(api.File{Path: p, Blob: -1}), write(api.File{Path: p, Text: "q", Size: 3}))
	}
	w.doesAll("P21.2", api.OK, mkdir("TARGETS"))
	w.doesAll("P21.3", api.ErrTree, write(target("TARGETS", "x")))
	w.doesAll("P21.3", api.ErrSnap, write(api.File{Path: "TARGETS", Text: "x"}))
	w.doesAll("P21.3", api.OK, write(f("TARGETS/x", 1)))
}

func TestMoreThanMaxFiles(t *testing.T) {
	w := begin(t, numbered(510)...)
	const most = 1100
	for i := range most {
		d := fmt.Sprintf("w%02d", i%32)
		if i < 32 {
			w.does("P21.2", mkdir(d))
		}
		w.does("P21.3", write(f(fmt.Sprintf("%s/%04d", d, (i*701)%most), i))) // in an order that is not that of paths
		if i < 8 || i%100 == 0 {
			w.holds("P21.3")
		}
	}
	w.holds("P21.3")
	files := w.x.Files()
	if len(files) != 510+most {
		t.Fatalf("P21.3: %d files, want %d", len(files), 510+most)
	}
	if x, e := tree.New(files); x != nil || e != api.ErrSnap {
		t.Errorf("P21.1: New of %d files: %d", len(files), e)
	}
	c := w.crashed(0)
	c.does("P21.3", write(f("last", 1)))
	c.holds("P21.7")
	w.holds("P21.7")
	for _, g := range files[512:] {
		w.does("P21.4", remove(g.Path))
	}
	w.holds("P21.4")
	begin(t, w.x.Files()...)
}

// P21.4

func TestDelete(t *testing.T) {
	w := grove(t)
	w.doesAll("P21.4", api.ErrTree, each(remove, "", "a", "a/c", "e", "g", "g/h", "m/j")...) // directories
	w.doesAll("P21.4", api.ErrTree, each(remove, "x", "x/y", "a/x", "a/b/c", "r/s", "B", "a/", "a/b/")...)
	w.doesAll("P21.4", api.ErrTree, each(remove, noPaths()...)...)
	for _, g := range w.x.Files() {
		w.doesAll("P21.4", api.OK, remove(g.Path))
		w.doesAll("P21.4", api.ErrTree, remove(g.Path))
		w.doesAll("P21.4", api.OK, mkdir(g.Path), rmdir(g.Path), write(g), remove(g.Path)) // its place is free
	}
	if len(w.x.Files()) != 0 || len(w.x.Dirs()) != 11 { // the directories stay
		t.Errorf("P21.4: %+v, %q", w.x.Files(), w.x.Dirs())
	}
}

func TestRmdir(t *testing.T) {
	w := grove(t)
	w.doesAll("P21.4", api.ErrTree, each(rmdir, "", "a/b", "a/c/d", "m/TARGETS", "r")...)       // the root, files
	w.doesAll("P21.4", api.ErrTree, each(rmdir, "x", "x/y", "a/x", "r/s", "e/f", "E", "e/")...) // nothing
	w.doesAll("P21.4", api.ErrTree, each(rmdir, noPaths()...)...)
	w.doesAll("P21.4", api.ErrTree, each(rmdir, "a", "a/c", "m", "s", "s/t", "s/t/u")...) // not empty, by a file, or by both
	w.doesAll("P21.4", api.ErrTree, each(rmdir, "g", "g/h")...)                           // by a directory alone
	w.doesAll("P21.4", api.OK, each(rmdir, "e", "g/h/i", "g/h", "g", "m/j")...)
	w.doesAll("P21.4", api.ErrTree, each(rmdir, "e", "g/h/i", "g/h", "g", "m/j")...)
	w.doesAll("P21.4", api.ErrTree, rmdir("m"))
	w.doesAll("P21.4", api.OK, remove("m/TARGETS"), rmdir("m"), remove("a/c/d"), rmdir("a/c"))
	w.doesAll("P21.4", api.ErrTree, rmdir("a"))
	w.doesAll("P21.4", api.OK, remove("a/b"), rmdir("a"), write(f("a", 1)), write(f("g", 1)))
	w.doesAll("P21.4", api.OK, remove("s/t/u/v"), rmdir("s/t/u"), rmdir("s/t"), rmdir("s"))
	is(t, "P21.4", w.x, []api.File{f("a", 1), f("g", 1), f("r", 3)}, nil, nil)
}

// TestRootStays: also of a tree in which nothing else is.
func TestRootStays(t *testing.T) {
	w := begin(t)
	w.doesAll("P21.4", api.ErrTree, rmdir(""), mkdir(""), remove(""))
	w.doesAll("P21.3", api.ErrPath, write(api.File{}))
	w.doesAll("P21.2", api.OK, mkdir("a"), rmdir("a"), write(f("a", 1)), remove("a"))
	w.doesAll("P21.4", api.ErrTree, rmdir(""))
}

// TestNamesAlike: neither a name that begins with a directory's, nor one in another directory, is in it.
func TestNamesAlike(t *testing.T) {
	w := begin(t, f("a-/x", 1), f("aa/x", 1), f("b/a/x", 1))
	w.doesAll("P21.2", api.OK, mkdir("a"), mkdir("b/aa"), mkdir("b/a/a"), mkdir("b/a/b"))
	w.doesAll("P21.4", api.OK, rmdir("a"), rmdir("b/aa"), rmdir("b/a/a"), rmdir("b/a/b"))
	w.doesAll("P21.4", api.ErrTree, rmdir("a-"), rmdir("aa"), rmdir("b/a"), rmdir("b"))
}

// P21.5

func TestJournal(t *testing.T) {
	w := begin(t, f("a", 1))
	w.doesAll("P21.5", api.OK, empty(), lengthen(), empty(), lengthen(0), lengthen(), lengthen(255, 1, 0), lengthen(7))
	is(t, "P21.5", w.x, []api.File{f("a", 1)}, nil, []byte{0, 255, 1, 0, 7})
	w.doesAll("P21.5", api.OK, empty(), empty(), lengthen(9), empty())
	var all []byte
	for n := range 70 {
		b := bytes.Repeat([]byte{byte(n), byte(3 * n)}, n*n)
		all = append(all, b...)
		w.doesAll("P21.5", api.OK, step{kind: "Append", bytes: b})
	}
	is(t, "P21.5", w.x, []api.File{f("a", 1)}, nil, all)
	w.doesAll("P21.5", api.OK, empty())
	great := bytes.Repeat([]byte("great"), 1<<18)
	w.doesAll("P21.5", api.OK, step{kind: "Append", bytes: great}, lengthen(1), step{kind: "Append", bytes: great[:1<<16]})
	w.doesAll("P21.5", api.OK, empty(), step{kind: "Append"})
	is(t, "P21.5", w.x, []api.File{f("a", 1)}, nil, nil)
}

// P21.6

// walk is a script with steps of all kinds; some of them are refused.
func walk() []step {
	return []step{
		mkdir("p"), mkdir("p"), write(f("p/q", 1)), lengthen(1, 2, 3), write(f("x/y", 1)), write(api.File{Path: "p", Size: -1}), write(api.File{Path: "/"}),
		lengthen(), rmdir("p"), remove("p/q"), remove("p/q"), empty(), lengthen(4, 5), rmdir("p"), write(f("p", 2)), lengthen(6), empty(),
	}
}

// far are numbers of steps at which nothing is stopped that is done here; before 1 they take a stop back.
func far() []int {
	return []int{0, -1, -2, -100, math.MinInt, math.MinInt + 1, math.MaxInt, math.MaxInt - 1, 1 << 32, 1<<32 + 1, -1 << 32, 1 << 62}
}

func TestStopAtEachStep(t *testing.T) {
	steps := walk()
	for n := 1; n <= len(steps)+4; n++ {
		w := begin(t, f("a/b", 1))
		w.stop(n)
		w.holds("P21.6")
		for i, s := range steps {
			if e := w.does("P21.6", s); (e == api.ErrDown) != (i+1 >= n) {
				t.Errorf("P21.6: Stop(%d): step %d: %d", n, i+1, e)
			}
			w.holds("P21.6")
			if w.x.Steps() != i+1 {
				t.Errorf("P21.6: %d steps, want %d", w.x.Steps(), i+1)
			}
		}
	}
}

func TestStopFarAway(t *testing.T) {
	for _, n := range far() {
		w := begin(t, f("a/b", 1))
		w.stop(n)
		for _, s := range walk() {
			if w.does("P21.6", s) == api.ErrDown {
				t.Errorf("P21.6: Stop(%d): %v is stopped", n, s)
			}
		}
		w.holds("P21.6")
	}
}

// TestStopAgain: ahead of the step that was to be stopped the last Stop counts, behind it none does.
func TestStopAgain(t *testing.T) {
	steps := walk()
	numbers := append(far(), 1, 2, 3, 5, len(steps), len(steps)+1)
	for _, n := range append(far(), 1, 2, 4, 7, len(steps)) {
		for again := range steps {
			for _, m := range numbers {
				w := begin(t, f("a/b", 1))
				w.stop(n)
				for i, s := range steps {
					if i == again {
						w.stop(m)
					}
					down := n >= 1 && i+1 >= n && n <= again || m >= 1 && i >= again && i-again+1 >= m && (n < 1 || n > again)
					if e := w.does("P21.6", s); (e == api.ErrDown) != down {
						t.Fatalf("P21.6: Stop(%d), Stop(%d) behind %d steps: step %d: %d", n, m, again, i+1, e)
					}
				}
				w.holds("P21.6")
			}
		}
	}
}

// TestStopsInARow: Stop twice in a row is as the second alone; taken back, nothing is stopped.
func TestStopsInARow(t *testing.T) {
	for _, first := range append(far(), 1, 2, 3) {
		for _, n := range append(far(), 1, 2, 3) {
			w := begin(t)
			w.stop(first)
			w.stop(n)
			for range 4 {
				w.doesEither("P21.6", lengthen(1))
			}
		}
	}
}

func (w *twin) doesEither(promise string, s step) {
	w.t.Helper()
	w.does(promise, s)
	w.holds(promise)
}

// TestStopOfAStoppedTree does nothing, be it stopped once or often.
func TestStopOfAStoppedTree(t *testing.T) {
	for _, n := range append(far(), 1, 2, 3) {
		for _, stopped := range walk() {
			w := begin(t, f("a/b", 1))
			w.stop(1)
			w.doesAll("P21.6", api.ErrDown, stopped)
			w.stop(n)
			w.doesAll("P21.6", api.ErrDown, lengthen(8), empty(), mkdir("z"))
			w.stop(n)
			w.doesAll("P21.6", api.ErrDown, write(f("a/b", 2)), remove("a/b"), rmdir("a"))
			w.crashed(1).doesAll("P21.7", api.OK, lengthen(8), mkdir("z"))
		}
	}
}

// TestStoppedAheadOfAll: each step that would be refused is answered ErrDown, and each that would be done, too.
func TestStoppedAheadOfAll(t *testing.T) {
	w := grove(t)
	w.doesAll("P21.5", api.OK, lengthen(1, 2))
	w.stop(1)
	for _, c := range noFiles() {
		w.doesAll("P21.6", api.ErrDown, write(c.f))
	}
	for _, p := range append(noPaths(), "", "a", "a/b", "x", "x/y", "r/s", "e", "g") {
		w.doesAll("P21.6", api.ErrDown, mkdir(p), remove(p), rmdir(p), write(f(p, 1)))
	}
	w.doesAll("P21.6", api.ErrDown, lengthen(), lengthen(1), empty())
}

func TestRefusedStepsCount(t *testing.T) {
	w := begin(t, f("a/b", 1))
	w.stop(6)
	w.doesAll("P21.6", api.ErrTree, mkdir("a"), write(f("a", 1)), remove("a"), rmdir("a"))
	w.doesAll("P21.6", api.ErrSnap, write(api.File{Path: "q", Size: -1}))
	w.doesAll("P21.6", api.ErrDown, mkdir("c"))
	if w.x.Steps() != 6 {
		t.Errorf("P21.6: %d steps, want 6", w.x.Steps())
	}
}

// TestOtherCallsAreNoSteps: neither counted, nor stopped, nor do they bring a stop nearer.
func TestOtherCallsAreNoSteps(t *testing.T) {
	w := begin(t, f("a/b", 1))
	w.stop(3)
	look := func() {
		for range 5 {
			w.x.Files()
			w.x.Dirs()
			w.x.Journal()
			w.x.Steps()
			w.x.Crash(1)
			w.holds("P21.6")
		}
	}
	look()
	w.doesAll("P21.6", api.OK, lengthen(1))
	look()
	w.doesAll("P21.6", api.OK, lengthen(2))
	look()
	w.doesAll("P21.6", api.ErrDown, lengthen(3), lengthen(4))
	look()
	is(t, "P21.8", w.x, []api.File{f("a/b", 1)}, []string{"a"}, []byte{1, 2})
}

// P21.7

// keeps are numbers from below the least rest to above the greatest, and the ends of int.
func keeps(most int) []int {
	l := []int{math.MinInt, math.MinInt + 1, math.MinInt + 2, math.MaxInt, math.MaxInt - 1, math.MaxInt - 2, 1 << 32, -1 << 32, 1 << 31, -1 << 31}
	for k := -3*most - 4; k <= 3*most+4; k++ {
		l = append(l, k)
	}
	return l
}

func TestCrashOfARunningTree(t *testing.T) {
	for _, n := range append(far(), 1, 2) { // a stop to come is not of the copy
		w := grove(t)
		w.doesAll("P21.5", api.OK, lengthen(1, 2, 3), empty(), lengthen(4, 5))
		w.stop(n)
		for _, keep := range keeps(3) {
			c := w.crashed(keep)
			if c.x.Steps() != 0 || !bytes.Equal(c.x.Journal(), []byte{4, 5}) {
				t.Errorf("P21.7: Crash(%d): %d steps, %d", keep, c.x.Steps(), c.x.Journal())
			}
			c.doesAll("P21.7", api.OK, lengthen(6), mkdir("z"), remove("a/b"), empty())
		}
		w.doesEither("P21.7", lengthen(6))
		w.doesEither("P21.7", mkdir("z"))
	}
}

func TestCrashAtEachStep(t *testing.T) {
	steps := walk()
	for n := 1; n <= len(steps)+2; n++ {
		for more := range 4 { // steps behind the one that was stopped
			w := begin(t, f("a/b", 1))
			w.stop(n)
			for _, s := range steps[:min(n+more, len(steps))] {
				w.does("P21.7", s)
			}
			// what the steps that were done have left, and no more
			done := begin(t, f("a/b", 1))
			for _, s := range steps[:min(n-1, len(steps))] {
				done.does("P21.7", s)
			}
			want := ask(done.x)
			if n <= len(steps) && steps[n-1].kind != "Append" {
				is(t, "P21.7", w.x.Crash(1), want.files, want.dirs, want.journal)
			}
			for _, keep := range keeps(3) {
				c := w.crashed(keep)
				got := ask(c.x)
				if !slices.Equal(got.files, want.files) || !slices.Equal(got.dirs, want.dirs) || !bytes.HasPrefix(got.journal, want.journal) || got.steps != 0 {
					t.Fatalf("P21.7: %+v, want %+v", got, want)
				}
				for _, s := range steps {
					c.does("P21.7", s)
				}
				c.holds("P21.7")
				w.holds("P21.7")
			}
		}
	}
}

func TestCrashOfAppends(t *testing.T) {
	for size := range 8 {
		b := []byte{10, 11, 12, 13, 14, 15, 16}[:size]
		for _, before := range [][]byte{nil, {1}, {1, 2, 3}} {
			w := begin(t)
			w.does("P21.5", lengthen(before...))
			w.stop(1)
			w.doesAll("P21.6", api.ErrDown, lengthen(b...))
			for _, keep := range keeps(size) {
				many := ((keep % (size + 1)) + size + 1) % (size + 1)
				c := w.crashed(keep)
				is(t, "P21.7", c.x, nil, nil, slices.Concat(before, b[:many]))
				c.doesAll("P21.7", api.OK, lengthen(20, 21))
				is(t, "P21.7", c.x, nil, nil, slices.Concat(before, b[:many], []byte{20, 21}))
			}
		}
	}
}

// TestOnlyTheFirstLeavesABeginning: of no Append behind the first step that was stopped, whichever kind that was.
func TestOnlyTheFirstLeavesABeginning(t *testing.T) {
	firsts := append(walk(), mkdir("a/b/c"), write(api.File{}), remove("q"), rmdir("q"))
	for _, first := range firsts {
		for _, second := range []step{lengthen(30), lengthen(31, 32, 33, 34), lengthen()} {
			w := begin(t, f("a/b", 1))
			w.doesAll("P21.5", api.OK, lengthen(9))
			w.stop(1)
			w.doesAll("P21.6", api.ErrDown, first, second)
			for _, keep := range keeps(5) {
				journal := w.crashed(keep).x.Journal()
				if bytes.ContainsAny(journal, "\x1e\x1f\x20\x21\x22") || first.kind != "Append" && len(journal) > 1 {
					t.Fatalf("P21.7: %v, then %v: Crash(%d): %d", first, second, keep, journal)
				}
			}
			w.doesAll("P21.6", api.ErrDown, second, first)
			for _, keep := range keeps(5) {
				w.crashed(keep)
			}
		}
	}
}

// TestCrashOfACrash: what was begun is at the journal's end now, and is not left twice; the new tree can be stopped anew.
func TestCrashOfACrash(t *testing.T) {
	w := begin(t, f("a/b", 1))
	w.doesAll("P21.5", api.OK, lengthen(1))
	w.stop(1)
	w.doesAll("P21.6", api.ErrDown, lengthen(2, 3))
	for first := range 3 {
		c := w.crashed(first)
		for keep := range 4 {
			d := c.crashed(keep)
			is(t, "P21.7", d.x, []api.File{f("a/b", 1)}, []string{"a"}, []byte{1, 2, 3}[:1+first])
		}
		c.stop(2)
		c.doesAll("P21.7", api.OK, write(f("a/c", 1)))
		c.doesAll("P21.7", api.ErrDown, lengthen(4, 5, 6, 7), empty())
		for keep := -6; keep < 12; keep++ {
			d := c.crashed(keep)
			d.doesAll("P21.7", api.OK, remove("a/c"), empty(), lengthen(8))
		}
	}
	w.holds("P21.7")
}

// P21.8

// TestToldInTheOrderOfPaths: not in that of bytes.
func TestToldInTheOrderOfPaths(t *testing.T) {
	names := []string{"a", "a-", "a.", "a0", "aA", "a_", "aa", "B", "_", "-", "...."}
	w := begin(t)
	for _, d := range names {
		w.does("P21.2", mkdir(d))
		w.does("P21.3", write(f(d+"/x", 1)))
		for _, e := range names {
			w.does("P21.2", mkdir(d+"/"+e))
			w.does("P21.3", write(f(d+"/"+e+"/x", 1)))
		}
	}
	w.holds("P21.8")
	dirs := w.x.Dirs()
	if !slices.Equal(dirs, sorted(slices.Clone(dirs)...)) || slices.IsSorted(dirs) {
		t.Errorf("P21.8: %q", dirs)
	}
	if i := slices.Index(dirs, "a/aa"); i < 0 || slices.Index(dirs, "a-") != slices.Index(dirs, "a")+len(names)+1 {
		t.Errorf("P21.8: a and what is below it are not one run: %q", dirs)
	}
	if files := w.x.Files(); files[len(files)-1].Path != "aa/x" {
		t.Errorf("P21.8: %q is the last", files[len(files)-1].Path)
	}
}

func TestToldOfAStoppedTree(t *testing.T) {
	w := grove(t)
	w.doesAll("P21.5", api.OK, lengthen(1, 2))
	before := ask(w.x)
	w.stop(1)
	for _, s := range walk() {
		w.doesAll("P21.8", api.ErrDown, s)
		is(t, "P21.8", w.x, before.files, before.dirs, before.journal)
	}
}

// P21.10

// TestThereAndBack: Mkdir and Rmdir, Write of a new file and Delete leave the tree as it was.
func TestThereAndBack(t *testing.T) {
	w := grove(t)
	before := ask(w.x)
	at := []string{""}
	at = append(at, before.dirs...)
	for _, d := range at {
		for _, name := range []string{"0", "z", "n-1", "TARGETS-"} {
			p := strings.TrimPrefix(d+"/"+name, "/")
			w.doesAll("P21.10", api.OK, mkdir(p), rmdir(p))
			is(t, "P21.10", w.x, before.files, before.dirs, before.journal)
			w.doesAll("P21.10", api.OK, write(f(p, 7)), remove(p))
			is(t, "P21.10", w.x, before.files, before.dirs, before.journal)
		}
	}
	for _, d := range at { // what was empty is so still, and what was not is not
		want := api.ErrTree
		if slices.Contains([]string{"e", "g/h/i", "m/j"}, d) {
			want = api.OK
		}
		c := w.crashed(0)
		c.doesAll("P21.10", want, rmdir(d))
	}
}
