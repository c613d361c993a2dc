package snap_test

import (
	"fmt"
	"math"
	"math/big"
	"regexp"
	"slices"
	"strings"
	"testing"

	"copse/api"
	"copse/path"
	"copse/snap"
)

// other is a file that is no manifest, text a manifest.
func other(p string, blob, size int) api.File {
	return api.File{Path: p, Blob: blob, Size: size}
}

func text(p, s string) api.File {
	return api.File{Path: p, Text: s, Size: len(s)}
}

// at are files that differ by their blobs too, so that one cannot be taken for another.
func at(ps ...string) []api.File {
	var l []api.File
	for i, p := range ps {
		if path.Base(p) == api.Name {
			l = append(l, text(p, strings.Repeat("x\n", i)))
		} else {
			l = append(l, other(p, i+1, 10*i))
		}
	}
	return l
}

// many are n files, rising.
func many(n int) []api.File {
	var l []api.File
	for i := range n {
		l = append(l, other(fmt.Sprintf("d%02d/f%02d", i/32, i%32), i, i))
	}
	return l
}

// The oracle: the chapter's words, taken apart anew.

var component = regexp.MustCompile(`^[a-zA-Z0-9._-]{1,32}$`)

func goodPath(p string) bool {
	pieces := strings.Split(p, "/")
	for _, c := range pieces {
		if !component.MatchString(c) || c == "." || c == ".." || c == "..." {
			return false
		}
	}
	return len(p) <= 120 && len(pieces) <= 12
}

func fileFault(f api.File) api.Errno {
	pieces := strings.Split(f.Path, "/")
	switch {
	case !goodPath(f.Path):
		return api.ErrPath
	case pieces[len(pieces)-1] == "TARGETS":
		if f.Blob != 0 || f.Size != len(f.Text) {
			return api.ErrSnap
		}
	case f.Text != "" || f.Blob < 0 || f.Blob > 1<<60 || f.Size < 0 || f.Size > 1<<62:
		return api.ErrSnap
	}
	return api.OK
}

// listFault holds every file against every other one, not its neighbour alone.
func listFault(l []api.File) api.Errno {
	for _, f := range l {
		if !goodPath(f.Path) {
			return api.ErrPath
		}
	}
	for i, f := range l {
		if fileFault(f) != api.OK || i == 512 {
			return api.ErrSnap
		}
		for _, g := range l[i+1:] {
			a, b := strings.Split(f.Path, "/"), strings.Split(g.Path, "/")
			if slices.Compare(a, b) >= 0 || len(a) < len(b) && slices.Equal(a, b[:len(a)]) {
				return api.ErrSnap
			}
		}
	}
	return api.OK
}

func linesOf(l []api.File) string {
	s := ""
	for _, f := range l {
		if pieces := strings.Split(f.Path, "/"); pieces[len(pieces)-1] == "TARGETS" {
			s += fmt.Sprintf("t %s %x\n", f.Path, f.Text)
		} else {
			s += fmt.Sprintf("f %s %d %d\n", f.Path, f.Blob, f.Size)
		}
	}
	return s
}

var (
	textLine  = regexp.MustCompile(`^t ([^ \n]+) ((?:[0-9a-f][0-9a-f])*)\n$`)
	otherLine = regexp.MustCompile(`^f ([^ \n]+) (0|[1-9][0-9]*) (0|[1-9][0-9]*)\n$`)
)

// filesOf reads by the chapter's grammar alone.
func filesOf(s string) ([]api.File, bool) {
	var l []api.File
	for _, line := range strings.SplitAfter(s, "\n") {
		if line == "" {
			continue
		}
		var f api.File
		if m := textLine.FindStringSubmatch(line); m != nil && (m[1] == "TARGETS" || strings.HasSuffix(m[1], "/TARGETS")) {
			var b []byte
			fmt.Sscanf(m[2], "%x", &b)
			f = text(m[1], string(b))
		} else if m := otherLine.FindStringSubmatch(line); m != nil && m[1] != "TARGETS" && !strings.HasSuffix(m[1], "/TARGETS") {
			blob, _ := new(big.Int).SetString(m[2], 10)
			size, _ := new(big.Int).SetString(m[3], 10)
			if !blob.IsInt64() || !size.IsInt64() {
				return nil, false
			}
			f = other(m[1], int(blob.Int64()), int(size.Int64()))
		} else {
			return nil, false
		}
		l = append(l, f)
	}
	return l, listFault(l) == api.OK
}

func checkValid(t *testing.T, l []api.File, want api.Errno) {
	t.Helper()
	if e := snap.Valid(l); e != want {
		t.Errorf("P4.1: Valid(%+v): %d, want %d", l, e, want)
	}
}

// checkRead holds Read against what is wanted: none is ErrText.
func checkRead(t *testing.T, s string, want []api.File, ok bool) {
	t.Helper()
	l, e := snap.Read(s)
	switch {
	case ok && (e != api.OK || !slices.Equal(l, want)):
		t.Errorf("P4.3: Read(%q): %+v, %d, want %+v", s, l, e, want)
	case !ok && (e != api.ErrText || len(l) != 0):
		t.Errorf("P4.3: Read(%q): %+v, %d, want none and ErrText", s, l, e)
	}
}

// P4.1

// The greatest paths: of 12 components, of 120 bytes, of components of 32 bytes.
var (
	deep    = strings.Repeat("d/", 11) + "f"
	longest = strings.Repeat(strings.Repeat("c", 29)+"/", 3) + strings.Repeat("e", 30)
	broad   = strings.Repeat("c", 32) + "/" + strings.Repeat("b", 32)
)

// noPaths are no places of a file, each for its own reason.
var noPaths = []string{
	"", "a//b", "/a", "a/", "/", "a/..", ".", "..", "...", "a/./b", ".../a",
	"a b", "a\nb", "a\x00", "\xff", "é", "a:b", "*", "TARGETS/", "TARGETS//TARGETS",
	deep + "/g", longest + "x", strings.Repeat("c", 33), "a/" + strings.Repeat("c", 33) + "/TARGETS",
}

func TestFile(t *testing.T) {
	for _, c := range []struct {
		f    api.File
		want api.Errno
	}{
		{other("a", 1, 2), api.OK},
		{other("a", 0, 0), api.OK},
		{other("a/b.c/D_9-", 3, 4), api.OK},
		{other("a", 1<<60, 1<<62), api.OK},
		{other("a", 1<<60+1, 0), api.ErrSnap},
		{other("a", 0, 1<<62+1), api.ErrSnap},
		{other("a", -1, 0), api.ErrSnap},
		{other("a", 0, -1), api.ErrSnap},
		{other("a", math.MinInt, 0), api.ErrSnap},
		{other("a", 0, math.MinInt), api.ErrSnap},
		{other("a", math.MaxInt, 0), api.ErrSnap},
		{other("a", 0, math.MaxInt), api.ErrSnap},
		{text("a", "x"), api.ErrSnap},
		{api.File{Path: "a", Text: "x"}, api.ErrSnap},
		{text("TARGETS", ""), api.OK},
		{text("TARGETS", "x"), api.OK},
		{text("b/TARGETS", "x"), api.OK},
		{text("b/TARGETS", "\x00\xff é\n"), api.OK},
		{text("TARGETS/TARGETS", "x"), api.OK},
		{text("TARGETS", strings.Repeat("x", 4097)), api.OK}, // a manifest that is too long to parse is a file
		{api.File{Path: "TARGETS", Text: "x", Size: 2}, api.ErrSnap},
		{api.File{Path: "TARGETS", Text: "x", Size: 0}, api.ErrSnap},
		{api.File{Path: "TARGETS", Text: "x", Blob: 1, Size: 1}, api.ErrSnap},
		{api.File{Path: "TARGETS", Text: "x", Blob: -1, Size: 1}, api.ErrSnap},
		{api.File{Path: "TARGETS", Text: "é", Size: 1}, api.ErrSnap},
		{other("b/TARGETS", 1, 0), api.ErrSnap},
		{other("b/TARGETS", 0, 1), api.ErrSnap},
		{other("b/TARGETS", 0, -1), api.ErrSnap},
		{other("TARGETS/x", 0, 0), api.OK},
		{other("TARGETS/x", 1, 2), api.OK},
		{text("TARGETS/x", "x"), api.ErrSnap},
		{other("XTARGETS", 1, 2), api.OK},
		{other("TARGETSX", 1, 2), api.OK},
		{other("targets", 1, 2), api.OK},
		{text("a-TARGETS", "x"), api.ErrSnap},
		{other(deep, 1, 2), api.OK},
		{other(longest, 1, 2), api.OK},
		{other(broad, 1, 2), api.OK},
	} {
		if e := snap.File(c.f); e != c.want {
			t.Errorf("P4.1: File(%+v): %d, want %d", c.f, e, c.want)
		}
		checkValid(t, []api.File{c.f}, c.want)
	}
}

func TestFileAtNoPath(t *testing.T) {
	for _, p := range noPaths {
		for _, f := range []api.File{other(p, 0, 0), other(p, 1, 2), other(p, -1, -1), text(p, "x"), {Path: p, Text: "x"}} {
			if e := snap.File(f); e != api.ErrPath {
				t.Errorf("P4.1: File(%+v): %d, want ErrPath", f, e)
			}
			checkValid(t, []api.File{f}, api.ErrPath)
		}
	}
}

func TestFileOfAllFields(t *testing.T) {
	numbers := []int{math.MinInt, -1, 0, 1, 2, 3, 1 << 60, 1<<60 + 1, 1 << 62, 1<<62 + 1, math.MaxInt}
	for _, p := range []string{"a", "TARGETS", "a/TARGETS", "TARGETS/a", "", "a/", "TARGETS/.."} {
		for _, s := range []string{"", "x", "\n\n", "é", "\x00\x00\x00"} {
			for _, blob := range numbers {
				for _, size := range numbers {
					f := api.File{Path: p, Text: s, Blob: blob, Size: size}
					if e := snap.File(f); e != fileFault(f) {
						t.Errorf("P4.1: File(%+v): %d, want %d", f, e, fileFault(f))
					}
				}
			}
		}
	}
}

func TestValid(t *testing.T) {
	for _, c := range []struct {
		what string
		l    []api.File
		want api.Errno
	}{
		{"none", nil, api.OK},
		{"none", []api.File{}, api.OK},
		{"rising", at("a", "b"), api.OK},
		{"rising by component", at("a/z", "a-b"), api.OK},
		{"falling by component", at("a-b", "a/z"), api.ErrSnap},
		{"beginning, not above", at("a", "ab"), api.OK},
		{"great letters ahead", at("B", "a"), api.OK},
		{"above", at("a", "a/b"), api.ErrSnap},
		{"far above", at("a", "a/b/c/d"), api.ErrSnap},
		{"above, with one between", at("a", "a/b", "a/c"), api.ErrSnap},
		{"above, deep down", at("a/b/c", "a/b/c/d"), api.ErrSnap},
		{"a manifest above", at("TARGETS", "TARGETS/x"), api.ErrSnap},
		{"below, falling", at("a/b", "a"), api.ErrSnap},
		{"below, with one between", at("a/b", "b", "a"), api.ErrSnap},
		{"above, not the neighbour", at("a", "b", "a/b"), api.ErrSnap},
		{"falling", at("b", "a"), api.ErrSnap},
		{"falling at the end", at("a", "c", "b"), api.ErrSnap},
		{"falling at the beginning", at("b", "a", "c"), api.ErrSnap},
		{"the same path, another file", at("a", "a"), api.ErrSnap},
		{"the same file", []api.File{other("a", 1, 1), other("a", 1, 1)}, api.ErrSnap},
		{"the same path, not the neighbour", at("a", "b", "a"), api.ErrSnap},
		{"a root between", at("b", "", "a"), api.ErrPath},
		{"a root ahead", at("", "a"), api.ErrPath},
		{"no path at the end", at("b", "a", "a//b"), api.ErrPath},
		{"no path at the end, behind one that may not be", []api.File{other("a", -1, 0), other("b/", 0, 0)}, api.ErrPath},
		{"one that may not be at the end", []api.File{other("a", 0, 0), other("b", 0, -1)}, api.ErrSnap},
		{"one that may not be between", []api.File{other("a", 0, 0), text("b", "x"), other("c", 0, 0)}, api.ErrSnap},
		{"a manifest that may not be", []api.File{other("TARGETS", 1, 0), other("a", 0, 0)}, api.ErrSnap},
		{"512", many(512), api.OK},
		{"513", many(513), api.ErrSnap},
		{"513, the last no path", append(many(512), other("z/", 0, 0)), api.ErrPath},
		{"2000, the last no path", append(many(1999), other("", 0, 0)), api.ErrPath},
	} {
		if e := snap.Valid(c.l); e != c.want {
			t.Errorf("P4.1: Valid of %s: %d, want %d", c.what, e, c.want)
		}
	}
}

// shortLists calls with every list of up to most of the files.
func shortLists(files []api.File, most int, call func(l []api.File)) {
	var grow func(l []api.File)
	grow = func(l []api.File) {
		call(l)
		if len(l) == most {
			return
		}
		for _, f := range files {
			grow(append(slices.Clone(l), f))
		}
	}
	grow(nil)
}

// kinds are neighbours of all kinds, and files that may not be.
var kinds = []api.File{
	other("a", 1, 2), text("a/TARGETS", "t"), other("a/b", 0, 0), other("a/b/c", 3, 4), other("a-b", 5, 0), other("ab", 0, 6),
	other("TARGETS/x", 7, 7), text("TARGETS", ""), other("B", -1, 0), text("c", "x"), other("", 0, 0), other("a//b", 0, 0),
}

func TestValidOfAllShortLists(t *testing.T) {
	shortLists(kinds, 4, func(l []api.File) {
		checkValid(t, l, listFault(l))
	})
}

// P4.2

func TestFind(t *testing.T) {
	twice := []api.File{other("b", 1, 0), other("a", 2, 0), other("b", 3, 0), other("", 4, 0), text("no/path//", "x")}
	for _, c := range []struct {
		l    []api.File
		p    string
		want api.File
		ok   bool
	}{
		{twice, "b", twice[0], true},
		{twice, "a", twice[1], true},
		{twice, "", twice[3], true},
		{twice, "no/path//", twice[4], true},
		{twice[1:], "b", twice[2], true},
		{twice, "c", api.File{}, false},
		{twice, "B", api.File{}, false},
		{twice, "no/path/", api.File{}, false},
		{twice[:3], "", api.File{}, false},
		{nil, "", api.File{}, false},
		{nil, "a", api.File{}, false},
		{[]api.File{{}}, "", api.File{}, true},
		{at("a/b", "a-b"), "a", api.File{}, false},
		{at("a/b", "a-b"), "a/b/c", api.File{}, false},
		{at("b", "a"), "a", at("b", "a")[1], true}, // not by an order that any list need not have
	} {
		if f, ok := snap.Find(c.l, c.p); f != c.want || ok != c.ok {
			t.Errorf("P4.2: Find(%+v, %q): %+v, %v, want %+v, %v", c.l, c.p, f, ok, c.want, c.ok)
		}
	}
}

func TestKeep(t *testing.T) {
	unlikeFiles := []api.File{other("b", 1, 0), other("a", 2, 0), other("b", 3, 0), other("", -4, 0), text("x//", "x")}
	for _, c := range []struct {
		l    []api.File
		ps   []string
		want []api.File
	}{
		{at("a", "b", "c"), []string{"c", "a", "z", "a"}, []api.File{at("a")[0], at("a", "b", "c")[2]}},
		{at("a", "b"), nil, nil},
		{nil, []string{"a", ""}, nil},
		{nil, nil, nil},
		{at("a", "b"), []string{""}, nil},
		{at("a", "b"), []string{"b", "a"}, at("a", "b")},
		{at("a", "b"), []string{"b", "b", "b"}, at("a", "b")[1:]},
		{at("a/b", "a-b"), []string{"a", "a/b/c", "A/B"}, nil},
		{at("a/b", "a-b", "ab"), []string{"ab", "a-b", "a/b"}, at("a/b", "a-b", "ab")},
		{unlikeFiles, []string{"b"}, []api.File{unlikeFiles[0], unlikeFiles[2]}},
		{unlikeFiles, []string{"a", "b"}, unlikeFiles[:3]},
		{unlikeFiles, []string{"x//", ""}, unlikeFiles[3:]},
		{unlikeFiles, []string{"x/", "/"}, nil},
	} {
		if got := snap.Keep(c.l, c.ps); !slices.Equal(got, c.want) {
			t.Errorf("P4.2: Keep(%+v, %q): %+v, want %+v", c.l, c.ps, got, c.want)
		}
	}
}

// somePaths calls with every list of up to 3 paths, in every order and with paths twice.
func somePaths(call func(ps []string)) {
	var pathsOnly []api.File
	for _, p := range []string{"a/b", "a", "", "a-b", "x//"} {
		pathsOnly = append(pathsOnly, api.File{Path: p})
	}
	shortLists(pathsOnly, 3, func(l []api.File) {
		var ps []string
		for _, f := range l {
			ps = append(ps, f.Path)
		}
		call(ps)
	})
}

func TestFindAndKeepOfAllShortLists(t *testing.T) {
	files := []api.File{other("a/b", 1, 0), other("a/b", 2, 0), other("a", 3, 0), text("a-b", "no manifest"), other("", 5, 0), other("x//", -6, 0)}
	shortLists(files, 3, func(l []api.File) {
		for _, p := range []string{"a/b", "a", "", "a-b", "x//", "x/"} {
			var want api.File
			where := slices.IndexFunc(l, func(f api.File) bool { return f.Path == p })
			if where >= 0 {
				want = l[where]
			}
			if f, ok := snap.Find(l, p); f != want || ok != (where >= 0) {
				t.Errorf("P4.2: Find(%+v, %q): %+v, %v", l, p, f, ok)
			}
		}
		somePaths(func(ps []string) {
			want := slices.DeleteFunc(slices.Clone(l), func(f api.File) bool { return !slices.Contains(ps, f.Path) })
			if got := snap.Keep(l, ps); !slices.Equal(got, want) {
				t.Errorf("P4.2: Keep(%+v, %q): %+v, want %+v", l, ps, got, want)
			}
		})
	})
}

func TestSame(t *testing.T) {
	f := api.File{Path: "p", Text: "t", Blob: 1, Size: 2}
	for _, c := range []struct {
		a, b []api.File
		want bool
	}{
		{nil, nil, true},
		{nil, []api.File{}, true},
		{nil, []api.File{{}}, false},
		{[]api.File{f}, []api.File{f}, true},
		{[]api.File{f}, []api.File{{Path: "q", Text: "t", Blob: 1, Size: 2}}, false},
		{[]api.File{f}, []api.File{{Path: "p", Text: "u", Blob: 1, Size: 2}}, false},
		{[]api.File{f}, []api.File{{Path: "p", Text: "t", Blob: 0, Size: 2}}, false},
		{[]api.File{f}, []api.File{{Path: "p", Text: "t", Blob: 1, Size: 3}}, false},
		{[]api.File{f, f}, []api.File{f}, false},
		{[]api.File{f, {}}, []api.File{f}, false},
		{[]api.File{f, {}}, []api.File{{}, f}, false},
		{[]api.File{f, {}, f}, []api.File{f, {}, f}, true},
		{[]api.File{f, f, {}}, []api.File{f, f, f}, false},
		{[]api.File{{}, f, f}, []api.File{f, f, f}, false},
		{many(700), many(700), true},
		{many(700), many(701), false},
	} {
		if snap.Same(c.a, c.b) != c.want || snap.Same(c.b, c.a) != c.want {
			t.Errorf("P4.2: Same(%+v, %+v), want %v", c.a, c.b, c.want)
		}
	}
}

// P4.3

var printed = []struct {
	l []api.File
	s string
}{
	{nil, ""},
	{[]api.File{text("TARGETS", "a\n"), other("x/y", 7, 0)}, "t TARGETS 610a\nf x/y 7 0\n"},
	{[]api.File{text("TARGETS", "")}, "t TARGETS \n"},
	{[]api.File{text("a/TARGETS", "\x00\x0f\xf0\xff\x9a"), text("b/TARGETS", "")}, "t a/TARGETS 000ff0ff9a\nt b/TARGETS \n"},
	{[]api.File{other("a", 0, 0)}, "f a 0 0\n"},
	{[]api.File{other("TARGETS/x", 10, 200)}, "f TARGETS/x 10 200\n"},
	{[]api.File{other("a/z", 1<<60, 1<<62), other("a-b", 9, 10)}, "f a/z 1152921504606846976 4611686018427387904\nf a-b 9 10\n"},
	{[]api.File{other("f", 1, 2), other("t", 3, 4)}, "f f 1 2\nf t 3 4\n"},
}

func TestPrintAndRead(t *testing.T) {
	for _, c := range printed {
		if s, e := snap.Print(c.l); s != c.s || e != api.OK {
			t.Errorf("P4.3: Print(%+v): %q, %d, want %q", c.l, s, e, c.s)
		}
		checkRead(t, c.s, c.l, true)
	}
}

func TestEveryByteOfAText(t *testing.T) {
	var all []byte
	for b := range 256 {
		all = append(all, byte(b))
	}
	l := []api.File{text("TARGETS", string(all))}
	want := linesOf(l)
	if s, e := snap.Print(l); s != want || e != api.OK {
		t.Errorf("P4.3: Print of all bytes: %q, %d, want %q", s, e, want)
	}
	checkRead(t, want, l, true)
}

func TestPrintOfNoSnapshot(t *testing.T) {
	for _, c := range []struct {
		l    []api.File
		want api.Errno
	}{
		{at("b", "a"), api.ErrSnap},
		{at("a", "a/b"), api.ErrSnap},
		{at("a", "a"), api.ErrSnap},
		{[]api.File{other("a", -1, 0)}, api.ErrSnap},
		{[]api.File{text("a", "x")}, api.ErrSnap},
		{[]api.File{other("TARGETS", 0, 1)}, api.ErrSnap},
		{many(513), api.ErrSnap},
		{at("a", ""), api.ErrPath},
		{at("b", "a b", "a"), api.ErrPath},
		{append(many(600), other("/", 0, 0)), api.ErrPath},
	} {
		if s, e := snap.Print(c.l); s != "" || e != c.want {
			t.Errorf("P4.3: Print(%+v): %q, %d, want %d", c.l, s, e, c.want)
		}
	}
}

func TestReadRefuses(t *testing.T) {
	for _, s := range []string{
		// the line's form
		"\n", "\n\n", " \n", "f\n", "t\n", "f \n", "t \n", "g x 0 0\n", "F x 0 0\n", "T TARGETS \n", "x 0 0\n", "fx 0 0\n", "f  x 0 0\n", " f x 0 0\n",
		"f x 7\n", "f x\n", "f x 7 \n", "f x 7 0 \n", "f x 7 0 0\n", "f x  7 0\n", "f x 7  0\n", "f\tx\t7\t0\n", "ff x 7 0\n",
		"t TARGETS\n", "t TARGETS 61 \n", "t TARGETS 61 61\n", "t TARGETS  61\n", "t  TARGETS 61\n", "tt TARGETS 61\n",
		// its end
		"f x 7 0", "t TARGETS ", "t TARGETS 61", "f x 7 0\r\n", "f x 7 0\n\n", "\nf x 7 0\n", "f x 7 0\n\nf y 7 0\n", "f x 7 0\nf y 7 0", "f x 7 0f y 7 0\n", "f x 7 0\n ", "t TARGETS 61\r\n", "t TARGETS \n\x00",
		// its numbers
		"f x 07 0\n", "f x 7 00\n", "f x +1 0\n", "f x 0 +1\n", "f x -1 0\n", "f x 0 -1\n", "f x -0 0\n", "f x 0 -0\n", "f x 1_0 0\n", "f x 0x1 0\n", "f x 1.0 0\n", "f x 1e3 0\n", "f x a 0\n", "f x 0 a\n",
		"f x 1152921504606846977 0\n", "f x 0 4611686018427387905\n", "f x 9223372036854775807 0\n", "f x 9223372036854775808 0\n", "f x 0 9223372036854775808\n", "f x 18446744073709551616 0\n", "f x 0 18446744073709551617\n", "f x 36893488147419103233 0\n", "f x ٣ 0\n",
		// its digits
		"t TARGETS 6\n", "t TARGETS 610\n", "t TARGETS 6A\n", "t TARGETS A6\n", "t TARGETS 6g\n", "t TARGETS g6\n", "t TARGETS +1\n", "t TARGETS -1\n", "t TARGETS 0x\n", "t TARGETS 0x61\n", "t TARGETS _1\n", "t TARGETS 6_\n", "t TARGETS \\x\n", "t TARGETS 61é\n", "t TARGETS 1 \n", "t TARGETS ::\n", "t TARGETS ``\n", "t TARGETS //\n",
		// the file
		"t x 61\n", "t x \n", "t TARGETS/x 61\n", "t x/ 61\n", "t  61\n", "f TARGETS 0 0\n", "f TARGETS 7 0\n", "f a/TARGETS 0 0\n", "f  0 0\n", "f / 0 0\n", "f a//b 0 0\n", "f . 0 0\n", "f a/.. 0 0\n", "t /TARGETS 61\n", "t ../TARGETS 61\n", "f é 0 0\n",
		// the list
		"f b 0 0\nf a 0 0\n", "f a 0 0\nf a 0 0\n", "f a 0 0\nf a/b 0 0\n", "f a-b 0 0\nf a/z 0 0\n", "f a 0 0\nf b 0 0\nf a 1 0\n", "t TARGETS \nt TARGETS \n", "f x 0 0\nt TARGETS \nf y 0 0\n",
	} {
		checkRead(t, s, nil, false)
		checkRead(t, s+"f z 0 0\n", nil, false)
		checkRead(t, "f 0 0 0\n"+s, nil, false)
	}
}

func TestReadOfManyLines(t *testing.T) {
	checkRead(t, linesOf(many(512)), many(512), true)
	checkRead(t, linesOf(many(513)), nil, false)
	checkRead(t, strings.Repeat("\n", 2000), nil, false)
}

// TestReadOfNearTexts changes, leaves out, puts in and doubles each byte of right texts.
func TestReadOfNearTexts(t *testing.T) {
	for _, right := range []string{
		"t TARGETS 610a\nf x/y 7 0\n", "t TARGETS \n", "f a 0 0\n", "f a/z 10 4611686018427387904\nf a-b 1152921504606846976 10\n", "t a/TARGETS 00\nt b/TARGETS f9\nf c 1 2\n", "",
	} {
		check := func(parts ...string) {
			s := strings.Join(parts, "")
			l, ok := filesOf(s)
			checkRead(t, s, l, ok)
		}
		for i := range len(right) + 1 {
			check(right[:i])
			check(right[i:])
			for b := range 256 {
				check(right[:i], string([]byte{byte(b)}), right[i:])
				if i < len(right) {
					check(right[:i], string([]byte{byte(b)}), right[i+1:])
				}
			}
			if i < len(right) {
				check(right[:i], right[i+1:])
			}
			for j := i + 1; j <= len(right); j++ {
				check(right[:i], right[j:])
				check(right[:j], right[i:])
			}
		}
	}
}

// P4.4

func TestPrintAndReadOfAllShortLists(t *testing.T) {
	shortLists(kinds, 4, func(l []api.File) {
		want := ""
		fault := listFault(l)
		if fault == api.OK {
			want = linesOf(l)
		}
		s, e := snap.Print(l)
		if s != want || e != fault {
			t.Errorf("P4.3: Print(%+v): %q, %d, want %q, %d", l, s, e, want, fault)
		}
		if m, again := snap.Read(s); fault == api.OK && (again != api.OK || !snap.Same(m, l)) {
			t.Errorf("P4.4: Read(Print(%+v)): %+v, %d", l, m, again)
		}
		lines := linesOf(l) // of lists that are none too
		if m, again := snap.Read(lines); again == api.OK {
			if s, e := snap.Print(m); s != lines || e != api.OK {
				t.Errorf("P4.4: Print(Read(%q)): %q, %d", lines, s, e)
			}
		} else if fault == api.OK {
			t.Errorf("P4.4: Read(%q): %d", lines, again)
		}
	})
}

func TestKeepOfASnapshotIsOne(t *testing.T) {
	l := at("B", "TARGETS", "a/TARGETS", "a/b/c", "a/b/d", "a-b", "ab")
	for set := range 1 << len(l) {
		var ps []string
		var want []api.File
		for i, f := range l {
			if set>>i&1 == 1 {
				ps = append([]string{f.Path, "a", "z"}, ps...)
				want = append(want, f)
			}
		}
		got := snap.Keep(l, ps)
		if !slices.Equal(got, want) || snap.Valid(got) != api.OK {
			t.Errorf("P4.4: Keep(%+v, %q): %+v", l, ps, got)
		}
	}
}

func TestFindInASnapshot(t *testing.T) {
	l := at("TARGETS", "a/b/c", "a/b/d", "a-b", "ab/c/TARGETS")
	for _, f := range l {
		if got, ok := snap.Find(l, f.Path); got != f || !ok {
			t.Errorf("P4.4: Find(%q): %+v, %v", f.Path, got, ok)
		}
		near := []string{f.Path + "/x", f.Path + "/TARGETS", f.Path + "/", ""}
		for p := path.Dir(f.Path); p != ""; p = path.Dir(p) {
			near = append(near, p)
		}
		for _, p := range near {
			if got, ok := snap.Find(l, p); got != (api.File{}) || ok {
				t.Errorf("P4.4: Find(%q): %+v, %v", p, got, ok)
			}
		}
	}
}

// P4.5

var mark = api.File{Path: "mark", Text: "mark", Blob: -7, Size: -7}

// withRoom gives a list in front of marks, and all of it.
func withRoom[T any](items []T, marked T) (list, whole []T) {
	whole = append(slices.Clone(items), marked, marked, marked, marked)
	return whole[:len(items)], whole
}

func fill[T any](l []T, with T) {
	for i := range l[:cap(l)] {
		l[:cap(l)][i] = with
	}
}

func TestListsStay(t *testing.T) {
	for _, files := range [][]api.File{nil, at("a"), at("a/z", "a-b", "c"), at("b", "a", "b"), at("b", "", "a"), at("TARGETS", "TARGETS/x")} {
		for _, wanted := range [][]string{nil, {"a"}, {"c", "a-b", "a/z"}, {"b", "a", "b"}, {"mark", ""}} {
			l, whole := withRoom(files, mark)
			ps, wholePaths := withRoom(wanted, "mark")
			was, wasPaths := slices.Clone(whole), slices.Clone(wholePaths)
			stays := func(call string) {
				if !slices.Equal(whole, was) || !slices.Equal(wholePaths, wasPaths) {
					t.Fatalf("P4.5: %s(%+v, %q) changed what was handed in: %+v, %q", call, files, wanted, whole, wholePaths)
				}
			}
			snap.Valid(l)
			stays("Valid")
			snap.Print(l)
			stays("Print")
			snap.Find(l, "a")
			stays("Find")
			snap.Same(l, whole[:len(l)])
			stays("Same")
			one, two := snap.Keep(l, ps), snap.Keep(l, ps)
			stays("Keep")
			kept := slices.Clone(two)
			fill(one, mark)
			stays("Keep's answer")
			fill(whole, mark)
			fill(wholePaths, "other")
			if !slices.Equal(two, kept) {
				t.Errorf("P4.5: Keep(%+v, %q): its answer is not its own: %+v", files, wanted, two)
			}
		}
	}
}

func TestFindAndSameLookAtTheListAlone(t *testing.T) {
	l, whole := withRoom(at("a", "b"), mark)
	if f, ok := snap.Find(l, mark.Path); ok {
		t.Errorf("P4.5: Find found %+v behind the list", f)
	}
	if snap.Same(l, whole) || snap.Same(whole, l) || len(snap.Keep(l, []string{mark.Path})) != 0 {
		t.Error("P4.5: what is behind the list was looked at")
	}
	if !snap.Same(whole[:2], l) || !snap.Same(l, at("a", "b")) {
		t.Error("P4.5: the same files in other room are not the same")
	}
}

func TestReadAnswersNewLists(t *testing.T) {
	for _, c := range printed {
		one, _ := snap.Read(c.s)
		two, _ := snap.Read(c.s)
		fill(one, mark)
		if !slices.Equal(two, c.l) {
			t.Errorf("P4.5: two answers of Read(%q) share memory: %+v", c.s, two)
		}
	}
}
