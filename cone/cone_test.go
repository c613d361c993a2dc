package cone_test

import (
	"fmt"
	"math/rand"
	"runtime/debug"
	"slices"
	"strings"
	"testing"

	"copse/api"
	"copse/closure"
	"copse/cone"
	"copse/snap"
)

// The oracles: chapter 15's words, by chapter 2's pieces.

func pieces(p string) []string {
	if p == "" {
		return nil
	}
	return strings.Split(p, "/")
}

func byPieces(a, b string) int { return slices.Compare(pieces(a), pieces(b)) }

func isAbove(a, b string) bool {
	x, y := pieces(a), pieces(b)
	return len(x) < len(y) && slices.Equal(x, y[:len(x)])
}

func dirOf(p string) string {
	if i := strings.LastIndexByte(p, '/'); i >= 0 {
		return p[:i]
	}
	return ""
}

func isComponent(s string) bool {
	if len(s) < 1 || len(s) > 32 || s == "." || s == ".." || s == "..." {
		return false
	}
	return strings.Trim(s, "abcdefghijklmnopqrstuvwxyzABCDEFGHIJKLMNOPQRSTUVWXYZ0123456789._-") == ""
}

func isPath(p string) bool {
	x := pieces(p)
	return len(p) <= 120 && len(x) <= 12 && !slices.ContainsFunc(x, func(s string) bool { return !isComponent(s) })
}

func areCones(k []string) bool {
	for i, c := range k {
		if !isPath(c) {
			return false
		}
		for _, d := range k[:i] {
			if byPieces(d, c) >= 0 || isAbove(d, c) || isAbove(c, d) {
				return false
			}
		}
	}
	return true
}

func isShown(k []string, p string) bool {
	d := dirOf(p)
	return d == "" || slices.ContainsFunc(k, func(c string) bool {
		return d == c || isAbove(c, d) || isAbove(d, c)
	})
}

func viewOf(l []api.File, k []string) []api.File {
	var view []api.File
	for _, f := range l {
		if isShown(k, f.Path) {
			view = append(view, f)
		}
	}
	return view
}

func coverOf(ps []string) []string {
	var dirs, cover []string
	for _, p := range ps {
		if d := dirOf(p); d != "" {
			dirs = append(dirs, d)
		}
	}
	for _, d := range dirs {
		if slices.Contains(cover, d) || slices.ContainsFunc(dirs, func(e string) bool { return isAbove(e, d) }) {
			continue
		}
		cover = append(cover, d)
	}
	slices.SortFunc(cover, byPieces)
	return cover
}

// What is asked, and how it is held against what is wanted.

// files are those at some paths, in their order, no two with the same fields.
func files(ps ...string) []api.File {
	ps = slices.Clone(ps)
	slices.SortFunc(ps, byPieces)
	var l []api.File
	for i, p := range ps {
		f := api.File{Path: p, Blob: 100 + i, Size: 7 * i}
		if p == "TARGETS" || strings.HasSuffix(p, "/TARGETS") {
			f = api.File{Path: p, Text: p, Size: len(p)}
		}
		l = append(l, f)
	}
	return l
}

func pathsOf(l []api.File) []string {
	var ps []string
	for _, f := range l {
		ps = append(ps, f.Path)
	}
	return ps
}

// told writes what a test is about, cut short where it is very long.
func told(v any) string {
	s := fmt.Sprintf("%q", v)
	if len(s) > 2000 {
		s = s[:2000] + " ..."
	}
	return s
}

func valid(t *testing.T, k []string, want bool) {
	t.Helper()
	errno := api.ErrCone
	if want {
		errno = api.OK
	}
	if e := cone.Valid(k); e != errno {
		t.Fatalf("P15.1: Valid(%s): %d, want %d", told(k), e, errno)
	}
}

func shows(t *testing.T, k []string, p string, want bool) {
	t.Helper()
	if got := cone.Shows(k, p); got != want {
		t.Fatalf("P15.2: Shows(%s, %s): %v", told(k), told(p), got)
	}
}

func sees(t *testing.T, l []api.File, k []string, want []api.File) {
	t.Helper()
	view, e := cone.View(l, k)
	if e != api.OK || !slices.Equal(view, want) {
		t.Fatalf("P15.3: View(%s, %s):\n%s, %d, want\n%s", told(l), told(k), told(view), e, told(want))
	}
}

func refuses(t *testing.T, l []api.File, k []string, want api.Errno) {
	t.Helper()
	if view, e := cone.View(l, k); e != want || len(view) != 0 {
		t.Fatalf("P15.3: View(%s, %s): %s, %d, want %d", told(l), told(k), told(view), e, want)
	}
}

func covers(t *testing.T, ps, want []string) {
	t.Helper()
	if got := cone.Cover(ps); !slices.Equal(got, want) {
		t.Fatalf("P15.4: Cover(%s): %s, want %s", told(ps), told(got), told(want))
	}
}

func words(s string) []string { return strings.Fields(s) }

// lists gives all lists of up to some items, in every order and with items twice, to a call.
func lists(items []string, most int, call func(l []string)) {
	var grow func(l []string)
	grow = func(l []string) {
		call(l)
		if len(l) == most {
			return
		}
		for _, s := range items {
			grow(append(slices.Clip(l), s))
		}
	}
	grow(nil)
}

// parts gives all parts of a list, in its order, to a call.
func parts(items []string, call func(l []string)) {
	for set := range 1 << len(items) {
		var l []string
		for i, s := range items {
			if set>>i&1 == 1 {
				l = append(l, s)
			}
		}
		call(l)
	}
}

// The examples of the chapter.

var example = []string{"a", "b/c", "b/d/e", "b/d/f/g", "b/h/i", "j/k"}

func TestExample1(t *testing.T) {
	for _, k := range [][]string{nil, {""}, {"a", "b/c"}} {
		valid(t, k, true)
	}
	for _, k := range [][]string{{"b", "a"}, {"a", "a"}, {"a", "a/b"}, {"", "a"}, {"/"}} {
		valid(t, k, false)
	}
}

func TestExample2(t *testing.T) {
	l := files(example...)
	for _, c := range []struct {
		k    []string
		want string
	}{
		{nil, "a"},
		{[]string{"b/d"}, "a b/c b/d/e b/d/f/g"},
		{[]string{"b/d/f"}, "a b/c b/d/e b/d/f/g"},
		{[]string{"b/h", "j"}, "a b/c b/h/i j/k"},
		{[]string{""}, "a b/c b/d/e b/d/f/g b/h/i j/k"},
		{[]string{"x/y"}, "a"},
	} {
		var want []api.File
		for _, f := range l {
			in := slices.Contains(words(c.want), f.Path)
			if in {
				want = append(want, f)
			}
			shows(t, c.k, f.Path, in)
		}
		sees(t, l, c.k, want)
	}
}

func TestExample3(t *testing.T) {
	covers(t, words("TARGETS b/d/e b/d/f/g j/k"), words("b/d j"))
	covers(t, words("a"), nil)
	covers(t, words("b/c b/d/e"), words("b"))
	covers(t, nil, nil)
}

// P15.1

var long = strings.Repeat("a/", 11) + "a"

func TestValid(t *testing.T) {
	for _, k := range [][]string{
		nil, {}, {""}, {"a"}, {"a/b/c"}, {"a/b", "a.c"}, {"a", "a.b"}, {"a", "a-b", "ab"},
		{"a/b", "a/b.c", "a/bc", "a.c/b"}, {"A", "a"}, {"a/c", "b"}, {"a/b/c", "a/c/b", "b"},
		{"TARGETS"}, {"a/TARGETS", "b"}, {"...."}, {"-", ".a", "0", "_"},
		{long}, {long, "b"}, {strings.Repeat("a", 32)}, {strings.Repeat("a", 32), strings.Repeat("b", 32)},
		{strings.Repeat("a", 30) + strings.Repeat("/"+strings.Repeat("b", 29), 3)},
	} {
		valid(t, k, true)
	}
	for _, k := range [][]string{
		{"", ""}, {"", "a"}, {"a", ""}, {"", "a", "b"}, {"a", "", "b"}, // the root beside others
		{"/"}, {"/a"}, {"a/"}, {"a//b"}, {"."}, {".."}, {"..."}, {"a/.."}, {"../a"}, {"a b"}, {"a\n"}, {"\x00"}, {"é"}, {"\xff"}, {"*"}, {"a", "b/"}, {"/a", "b"}, {"a", "b", "c c"},
		{"b", "a"}, {"a.c", "a/b"}, {"ab", "a"}, {"a", "B"}, {"b", "a/c"}, {"a", "c", "b"}, {"b", "a", "c"}, // out of their order
		{"a", "a"}, {"a", "b", "b"}, {"a", "a", "b"}, {"a", "b", "a"}, // twice
		{"a", "a/b"}, {"a/b", "a"}, {"a", "a/b/c"}, {"a", "b", "b/c"}, {"a", "a/b", "a/c"}, {"a/b", "a/b/c", "a/c"}, {"a", "a.b", "a.b/c"}, // above another
		{long + "/a"}, {strings.Repeat("a", 33)}, {"a", strings.Repeat("b", 33)},
		{strings.Repeat("a", 31) + strings.Repeat("/"+strings.Repeat("b", 29), 3)},
	} {
		valid(t, k, false)
	}
}

// neighbours are texts of all kinds: the root, above and below, beginnings of one another, empty pieces, no paths.
var neighbours = []string{"", "a", "a/b", "a/b/c", "a/c", "a.b", "a.b/c", "ab", "b", "/", "a/", "//", "/a", "a//b", "..", "\xff"}

func TestValidOfAllShortLists(t *testing.T) {
	lists(neighbours, 3, func(k []string) { valid(t, k, areCones(k)) })
	lists([]string{"", "a", "a/b", "a/b/c", "a/c", "a.b", "a.b/c", "b"}, 4, func(k []string) { valid(t, k, areCones(k)) })
}

func TestValidOfEveryByte(t *testing.T) {
	for b := range 256 {
		s := string([]byte{byte(b)})
		valid(t, []string{s}, isPath(s))
		valid(t, []string{"0" + s, "z"}, isPath("0"+s))
		valid(t, []string{"0", "a/" + s + "b"}, isPath("a/"+s+"b"))
	}
}

// numbered are so many directories that are cones together.
func numbered(n int) []string {
	var k []string
	for i := range n {
		k = append(k, fmt.Sprintf("d%03d/%03d", i/1000, i%1000))
	}
	return k
}

func TestValidOfMany(t *testing.T) {
	k := numbered(20000) // there may be more cones than files
	valid(t, k, true)
	for _, at := range []int{0, 1, 9999, 10000, 19998, 19999} {
		for _, s := range []string{k[at] + "/", k[(at+1)%len(k)], k[(at+len(k)-1)%len(k)], "", dirOf(k[at]), "zz", "c"} {
			m := slices.Clone(k)
			m[at] = s
			ok := s == "zz" && at == len(k)-1 || s == "c" && at == 0
			valid(t, m, ok)
		}
		m := slices.Insert(slices.Clone(k), at+1, k[at]+"/e")
		valid(t, m, false)
		m[at+1] = k[at] + "e"
		valid(t, m, true)
	}
}

// P15.2

func TestShows(t *testing.T) {
	for _, c := range []struct {
		k    []string
		yes  string
		not  string
		also []string // shown too
	}{
		{nil, "f TARGETS", "a/f a/b/f", []string{"", "/", "/a"}},
		{[]string{""}, "f a/f a/b/f a.b/c/d", "", []string{"", "//", "//a", "a/", "a//"}},
		{[]string{"a/b"}, "f a/f a/b/f a/b/c/f a/b/c/d/f a/b a", "a/c/f a.b/f ab/f b/f a/bc/f a/b.c/f a/b-/f A/b/f", nil},
		{[]string{"a/b", "c/d"}, "f a/f a/b/f c/f c/d/f c/d/e/f", "a/c/f c/e/f b/f d/f b/d/f", nil},
		{[]string{"c/d", "a/b"}, "f a/f a/b/f c/f c/d/f c/d/e/f", "a/c/f c/e/f b/f d/f", nil},
		{[]string{"z", "m", "a", "m", "z"}, "a/f m/f z/f a/b/f", "b/f n/f zz/f", nil},
		{[]string{"a", "a/b/c"}, "a/x/f a/b/f a/b/c/d/f", "b/f", nil},
		{[]string{"x", ""}, "q/f x/f y/z/f", "", nil},
		{[]string{"a", ".."}, "a/f ../f ../../f", "b/f .../f", nil},
		{[]string{"/"}, "f", "a/f a/b/f", []string{"", "/", "/a", "//", "//a", "//a/b"}},
		{[]string{"/a"}, "f", "a/f a/a/f", []string{"/a/f", "/a/b/f"}},
		{[]string{"a/"}, "a/f", "b/f a/b/f", []string{"a/", "a//", "a//f", "a//b/f"}},
		{[]string{"\xff\xfe"}, "\xff\xfe/f", "\xff/f \xff\xfe\xfd/f", nil},
	} {
		for _, p := range append(words(c.yes), c.also...) {
			shows(t, c.k, p, true)
		}
		for _, p := range words(c.not) {
			shows(t, c.k, p, false)
		}
	}
	for _, c := range []struct {
		k []string
		p string
	}{
		{[]string{"/"}, "/a/f"}, {[]string{"/a"}, "//f"}, {[]string{"/a"}, "//a"}, {[]string{"a/"}, "a/b/"}, {[]string{"a"}, "//f"},
		{[]string{"a//b"}, "a/b/f"}, {[]string{"a/b"}, "a//f"}, {[]string{"a", "b"}, "/a/"}, {[]string{"//"}, "/a/f"},
	} {
		shows(t, c.k, c.p, false)
	}
}

func TestShowsOfAllShortLists(t *testing.T) {
	asked := slices.Clone(neighbours)
	for _, d := range neighbours {
		asked = append(asked, d+"/", d+"/f", d+"/b/f", d+"f", d+"//")
	}
	lists(neighbours, 2, func(k []string) {
		for _, p := range asked {
			shows(t, k, p, isShown(k, p))
		}
	})
	lists([]string{"a", "a/b", "b/", "/a", "a.b"}, 3, func(k []string) {
		for _, p := range asked {
			shows(t, k, p, isShown(k, p))
		}
	})
}

func TestShowsOfAllTexts(t *testing.T) {
	var texts []string
	lists([]string{"a", "/", "b"}, 5, func(l []string) { texts = append(texts, strings.Join(l, "")) })
	for _, c := range texts {
		for _, p := range texts {
			shows(t, []string{c}, p, isShown([]string{c}, p))
		}
	}
}

// TestGreatTexts: texts far longer and deeper than any path is, and many of them.
func TestGreatTexts(t *testing.T) {
	defer debug.SetMaxStack(debug.SetMaxStack(1 << 20))
	deep := strings.Repeat("a/", 1<<18)
	wide := strings.Repeat("a", 1<<20)
	shows(t, []string{deep}, deep, true) // the directory is above
	shows(t, []string{deep}, deep+"/b", true)
	shows(t, []string{deep}, deep+"/b/c", true)
	shows(t, []string{deep}, "a/b", true)
	shows(t, []string{deep}, deep+"b/c", false)
	shows(t, []string{deep + "b"}, deep+"c/d", false)
	shows(t, []string{"a"}, deep, true)
	shows(t, []string{"b", "a/b"}, deep, false)
	shows(t, []string{wide}, wide+"/a", true)
	shows(t, []string{wide}, wide+"a/a", false)
	shows(t, []string{wide + "/b/c"}, wide+"/a", true)
	valid(t, []string{deep}, false)
	valid(t, []string{wide}, false)
	refuses(t, nil, []string{deep}, api.ErrCone)
	covers(t, []string{deep, deep + "/b", deep + "b/c", wide + "/a"}, []string{deep[:len(deep)-1], wide})
	many := slices.Repeat([]string{"b", "c/d"}, 1<<16)
	shows(t, many, deep, false)
	shows(t, many, "c/e", true)
	shows(t, append(many, "a/a"), deep, true)
	covers(t, slices.Repeat([]string{deep + "b", "c/d", "f"}, 1<<5), []string{deep[:len(deep)-1], "c"})
}

// P15.3

func TestViewOfNoSnapshot(t *testing.T) {
	var most []string
	for i := range 512 {
		most = append(most, fmt.Sprintf("d%d/f%03d", i%7, i))
	}
	for _, k := range [][]string{nil, {""}, {"a"}, {"b", "a"}, {"a", "a/b"}, {"/"}} {
		for _, l := range [][]api.File{
			{{Path: ""}}, {{Path: "/"}}, {{Path: "a/"}}, {{Path: "a//b"}}, {{Path: "a/../b"}}, {{Path: "a"}, {Path: ""}},
			{{Path: "b"}, {Path: "a"}, {Path: "c/"}}, {{Path: "a", Size: -1}, {Path: "."}}, {{Path: long + "/a"}},
		} {
			refuses(t, l, k, api.ErrPath)
		}
		for _, l := range [][]api.File{
			{{Path: "b"}, {Path: "a"}}, {{Path: "a"}, {Path: "a"}}, {{Path: "a"}, {Path: "a/b"}}, {{Path: "a.c"}, {Path: "a/b"}},
			{{Path: "a", Text: "x"}}, {{Path: "a", Blob: -1}}, {{Path: "a", Size: -1}}, {{Path: "a", Size: 1<<62 + 1}}, {{Path: "a", Blob: 1<<60 + 1}},
			{{Path: "TARGETS", Text: "x"}}, {{Path: "TARGETS", Blob: 1}}, {{Path: "TARGETS", Text: "x", Size: 2}},
			files(append(most, "e")...),
		} {
			refuses(t, l, k, api.ErrSnap)
		}
	}
	sees(t, files(most...), []string{""}, files(most...))
}

func TestViewOfNoCones(t *testing.T) {
	for _, l := range [][]api.File{nil, files(example...), files("f")} {
		for _, k := range [][]string{{"b", "a"}, {"a", "a"}, {"a", "a/b"}, {"", "a"}, {"a", ""}, {"/"}, {"b/"}, {"b/d", "b/./e"}, {"x y"}, {"", ""}, {long + "/a"}} {
			refuses(t, l, k, api.ErrCone)
		}
	}
}

func TestView(t *testing.T) {
	all := words("f TARGETS a.b/f a/TARGETS a/b/c/f a/b/f a/b/g/h/f a/b/z a/b.c/f a/f a/z b/c/d/f b/f")
	for _, c := range []struct {
		k    []string
		want string
	}{
		{nil, "TARGETS f"},
		{[]string{}, "TARGETS f"},
		{[]string{""}, "TARGETS a/TARGETS a/b/c/f a/b/f a/b/g/h/f a/b/z a/b.c/f a/f a/z a.b/f b/c/d/f b/f f"},
		{[]string{"a"}, "TARGETS a/TARGETS a/b/c/f a/b/f a/b/g/h/f a/b/z a/b.c/f a/f a/z f"},
		{[]string{"a.b"}, "TARGETS a.b/f f"},
		{[]string{"a/b"}, "TARGETS a/TARGETS a/b/c/f a/b/f a/b/g/h/f a/b/z a/f a/z f"},
		{[]string{"a/b/c"}, "TARGETS a/TARGETS a/b/c/f a/b/f a/b/z a/f a/z f"},
		{[]string{"a/b/c/d/e"}, "TARGETS a/TARGETS a/b/c/f a/b/f a/b/z a/f a/z f"},
		{[]string{"a/b/g"}, "TARGETS a/TARGETS a/b/f a/b/g/h/f a/b/z a/f a/z f"},
		{[]string{"a/b/g/x"}, "TARGETS a/TARGETS a/b/f a/b/z a/f a/z f"},
		{[]string{"a/x"}, "TARGETS a/TARGETS a/f a/z f"},               // no directory of the snapshot, but a is above it
		{[]string{"x/y"}, "TARGETS f"},                                 // nor is one above it
		{[]string{"f"}, "TARGETS f"},                                   // a file's path
		{[]string{"a/b/f"}, "TARGETS a/TARGETS a/b/f a/b/z a/f a/z f"}, // so is this one, and its directory is above it
		{[]string{"TARGETS"}, "TARGETS f"},
		{[]string{"a/b.c", "b"}, "TARGETS a/TARGETS a/b.c/f a/f a/z b/c/d/f b/f f"},
		{[]string{"a/b/c", "a/b/g"}, "TARGETS a/TARGETS a/b/c/f a/b/f a/b/g/h/f a/b/z a/f a/z f"},
		{[]string{"0", "a.b", "b/c", "z"}, "TARGETS a.b/f b/c/d/f b/f f"},
		{[]string{"b/c/d"}, "TARGETS b/c/d/f b/f f"},
	} {
		l := files(all...)
		var want []api.File
		for _, f := range l {
			if slices.Contains(words(c.want), f.Path) {
				want = append(want, f)
			}
		}
		if !slices.Equal(pathsOf(want), words(c.want)) {
			t.Fatalf("the test's own list is no list: %q", c.want)
		}
		sees(t, l, c.k, want)
	}
	sees(t, nil, nil, nil)
	sees(t, nil, []string{""}, nil)
	sees(t, nil, []string{"a", "b"}, nil)
}

// TestViewOfSmallWorlds: all parts of some files under all cones of some directories.
func TestViewOfSmallWorlds(t *testing.T) {
	var cones [][]string
	parts(words("a a/b a/b/c a/c a.b a.b/c b x/y"), func(k []string) {
		slices.SortFunc(k, byPieces)
		if areCones(k) {
			cones = append(cones, k)
		}
	})
	cones = append(cones, []string{""})
	parts(words("a.b/c/f a/b/c/f a/b/d/f a/b/f a/c/f a/z b/f f x/f"), func(ps []string) {
		l := files(ps...)
		for _, k := range cones {
			sees(t, l, k, viewOf(l, k))
		}
	})
}

// anyPath is a path of few components, so that many are above, below and beside one another.
func anyPath(r *rand.Rand, depth int) string {
	var p []string
	for range 1 + r.Intn(depth) {
		p = append(p, []string{"a", "a.b", "ab", "b", "B"}[r.Intn(5)])
	}
	return strings.Join(p, "/")
}

// anyFiles are a snapshot: what is above another is left out.
func anyFiles(r *rand.Rand, n, depth int) []api.File {
	var ps []string
	for range n {
		p := anyPath(r, depth)
		if r.Intn(2) == 0 {
			p += "/f"
		}
		if !slices.ContainsFunc(ps, func(q string) bool { return q == p || isAbove(p, q) || isAbove(q, p) }) {
			ps = append(ps, p)
		}
	}
	return files(ps...)
}

func anyCones(r *rand.Rand, n, depth int) []string {
	var k []string
	for range r.Intn(n + 1) {
		c := anyPath(r, depth)
		if !slices.ContainsFunc(k, func(d string) bool { return c == d || isAbove(c, d) || isAbove(d, c) }) {
			k = append(k, c)
		}
	}
	slices.SortFunc(k, byPieces)
	return k
}

func TestAnyViews(t *testing.T) {
	r := rand.New(rand.NewSource(1501))
	for range 3000 {
		l, k := anyFiles(r, r.Intn(60), 1+r.Intn(5)), anyCones(r, 12, 1+r.Intn(5))
		sees(t, l, k, viewOf(l, k))
		for _, f := range l {
			shows(t, k, f.Path, isShown(k, f.Path))
		}
	}
}

// TestViewOfMany: full snapshots, and more cones than there can be files.
func TestViewOfMany(t *testing.T) {
	k := numbered(100000)
	var ps []string
	for i := range 512 {
		ps = append(ps, fmt.Sprintf("d%03d/%03d/f", i, i))
	}
	l := files(ps...)
	sees(t, l, k, l[:100])
	for _, at := range []int{0, 1, 49, 50, 99} {
		sees(t, l, slices.Delete(slices.Clone(k), at*1001, at*1001+1), slices.Delete(slices.Clone(l[:100]), at, at+1))
	}
	var flat, deep []string
	for i := range 512 {
		flat = append(flat, fmt.Sprintf("f%03d", i))
		deep = append(deep, strings.Repeat("a/", 11)+fmt.Sprint(i))
	}
	sees(t, files(flat...), nil, files(flat...))
	sees(t, files(flat...), k, files(flat...))
	sees(t, files(deep...), nil, nil)
	sees(t, files(deep...), []string{"a"}, files(deep...))
	sees(t, files(deep...), []string{long}, files(deep...))
	sees(t, files(deep...), []string{"a/a/b"}, nil)
}

// TestViewHasFilesWhole: all fields of a file are as they were.
func TestViewHasFilesWhole(t *testing.T) {
	l := []api.File{
		{Path: "TARGETS", Text: "target a { }\n\xff\x00", Size: 15},
		{Path: "a/TARGETS"},
		{Path: "a/f", Blob: 1 << 60, Size: 1 << 62},
		{Path: "a/g", Blob: 3},
		{Path: "b/f", Size: 5},
	}
	sees(t, l, []string{"a"}, l[:4])
	sees(t, l, []string{""}, l)
	sees(t, l, nil, l[:1])
}

// P15.4

func TestCover(t *testing.T) {
	for _, c := range []struct{ ps, want []string }{
		{nil, nil},
		{[]string{}, nil},
		{[]string{""}, nil},
		{words("f TARGETS g f"), nil}, // the root's files alone
		{words("a/f"), words("a")},
		{words("f a/f"), words("a")},
		{words("a/b/c/f"), words("a/b/c")},
		{words("a/f a/g a/h"), words("a")}, // one directory several times
		{words("a/f a/f"), words("a")},
		{words("b/f a/f b/f a/g"), words("a b")},
		{words("a/b/f a/f"), words("a")}, // above others
		{words("a/f a/b/f"), words("a")},
		{words("a/b/c/f a/f a/b/f"), words("a")},
		{words("a/b/c/f a/b/d/f"), words("a/b/c a/b/d")}, // what is above both is none of these
		{words("a/b/c/f a/b/f a/c/f"), words("a/b a/c")},
		{words("a/b a"), words("a")},
		{words("a.b/f a/f ab/f"), words("a a.b ab")}, // beginnings that are not above
		{words("a.c/f a/b/f"), words("a/b a.c")},
		{words("a.b/c/f a.b/f a/f"), words("a a.b")},
		{words("c/f b/f a/f"), words("a b c")},
		{words("c/f/g b/f a/f/g c/f/h/i"), words("a/f b c/f")},
		{[]string{"/", "/a", "a/", "//", "//a", "/a/b"}, []string{"/", "/a", "a"}}, // any texts: of the first two the directory is the root
		{[]string{"a//b", "a//c/d", "a/"}, []string{"a"}},
		{[]string{"a//b", "a//c/d"}, []string{"a/"}},
		{[]string{"\xff/a", "é/a", "\x00/a", "../a", " /a"}, []string{"\x00", " ", "..", "é", "\xff"}},
	} {
		covers(t, c.ps, c.want)
	}
}

func TestCoverOfAllShortLists(t *testing.T) {
	lists([]string{"", "f", "/", "//", "/a", "a/", "a/f", "a/g", "a/b/f", "a/b/c/f", "a.b/f", "a//f", "ab/c/f", "b/f"}, 4, func(ps []string) {
		covers(t, ps, coverOf(ps))
	})
	parts(words("a.b/f a/b/f a/b/c/f a/c/f a/f ab/f b/c/f b/c/g b/f c/d/e/f c/d/f f"), func(ps []string) {
		want := coverOf(ps)
		covers(t, ps, want)
		slices.Reverse(ps)
		covers(t, ps, want)
	})
}

func TestAnyCovers(t *testing.T) {
	r := rand.New(rand.NewSource(1502))
	for range 3000 {
		var ps []string
		for range r.Intn(40) {
			ps = append(ps, anyPath(r, 6))
		}
		want := coverOf(ps)
		covers(t, ps, want)
		r.Shuffle(len(ps), func(i, j int) { ps[i], ps[j] = ps[j], ps[i] })
		covers(t, append(ps, ps...), want)
	}
}

func TestCoverOfMany(t *testing.T) {
	want := numbered(50000)
	var ps []string
	for i := range 2 * len(want) {
		c := want[i*7919%len(want)]
		ps = append(ps, c+"/f", c+"/g/h")
	}
	covers(t, ps, want)
	covers(t, append(ps, "f"), want)
	covers(t, append(ps, "d000/f"), append([]string{"d000"}, want[1000:]...))
}

// P15.5

// withRoom is a list with spare room behind it, and both as one list.
func withRoom[T any](items []T, mark T) (list, whole []T) {
	whole = append(slices.Clone(items), mark, mark, mark, mark)
	return whole[:len(items)], whole
}

// fill writes over a list and its spare room.
func fill[T any](l []T, mark T) {
	l = l[:cap(l)]
	for i := range l {
		l[i] = mark
	}
}

var (
	markText = "mark/mark/mark"
	markFile = api.File{Path: "mark/mark", Text: "mark", Blob: -1, Size: -2}
)

// texts and snaps are what the calls of the memory tests are given.
var texts = [][]string{
	nil, {""}, {"a"}, {"a", "b/d"}, {"b/d", "j"}, {"b", "a"}, {"a", "a", "a/b"}, {"/", ""},
	{"j/k", "b/d/f/g", "b/d/e", "a", "b/d/e"}, {"b/c", "b/d/e", "j/k"}, {"mark"}, {"mark/mark"},
}

func snaps() [][]api.File {
	return [][]api.File{nil, files("a"), files(example...), {{Path: "b"}, {Path: "a"}}, {{Path: "/"}}, files("a/f", "b/f", "mark/f")}
}

func TestWhatIsHandedInStays(t *testing.T) {
	for _, s := range texts {
		k, whole := withRoom(s, markText)
		was := slices.Clone(whole)
		valid(t, k, areCones(s))
		for _, p := range append(words("a b/c mark/mark mark/mark/mark mark/mark/mark/mark"), example...) {
			shows(t, k, p, isShown(s, p)) // what the spare room has plays no part
		}
		covers(t, k, coverOf(s))
		for _, files := range snaps() {
			l, all := withRoom(files, markFile)
			had := slices.Clone(all)
			view, e := cone.View(l, k)
			switch want := snap.Valid(files); {
			case want != api.OK:
				refuses(t, l, k, want)
			case !areCones(s):
				refuses(t, l, k, api.ErrCone)
			case e != api.OK || !slices.Equal(view, viewOf(files, s)):
				t.Errorf("P15.5: View(%+v, %q): %+v, %d", l, k, view, e)
			}
			if !slices.Equal(all, had) {
				t.Errorf("P15.5: View(%+v, %q) changed its files: %+v", files, s, all)
			}
			fill(view, markFile)
			if !slices.Equal(all, had) {
				t.Errorf("P15.5: View(%+v, %q): the answer is in its files", files, s)
			}
		}
		if !slices.Equal(whole, was) {
			t.Errorf("P15.5: texts %q were changed: %q", s, whole)
		}
	}
}

func TestAnswersAreNew(t *testing.T) {
	for _, s := range texts {
		ps, whole := withRoom(s, markText)
		want := coverOf(s)
		first, second := cone.Cover(ps), cone.Cover(ps)
		fill(first, markText)
		_ = append(first, "more")
		if !slices.Equal(second, want) || !slices.Equal(ps, s) {
			t.Errorf("P15.5: Cover(%q): its answers share memory, or with its texts: %q", s, second)
		}
		fill(whole, markText)
		if !slices.Equal(second, want) {
			t.Errorf("P15.5: Cover(%q): the answer changed with its texts: %q", s, second)
		}
		for _, files := range snaps() {
			if snap.Valid(files) != api.OK || !areCones(s) {
				continue
			}
			newViews(t, files, s)
		}
	}
}

func newViews(t *testing.T, files []api.File, s []string) {
	k, texts := withRoom(s, markText)
	l, whole := withRoom(files, markFile)
	want := viewOf(files, s)
	first, _ := cone.View(l, k)
	second, _ := cone.View(l, k)
	fill(first, markFile)
	_ = append(first, markFile)
	if !slices.Equal(second, want) || !slices.Equal(l, files) || !slices.Equal(k, s) {
		t.Errorf("P15.5: View(%+v, %q): its answers share memory, or with its files: %+v", files, s, second)
	}
	longer := append(second, markFile)
	fill(whole, markFile)
	fill(texts, markText)
	if !slices.Equal(second, want) || !slices.Equal(longer[:len(second)], want) {
		t.Errorf("P15.5: View(%+v, %q): the answer changed with what was handed in: %+v", files, s, second)
	}
}

// TestNothingIsKept: an answer hangs on its arguments, not on the calls ahead of it.
func TestNothingIsKept(t *testing.T) {
	k := []string{"b/d"}
	l := files(example...)
	sees(t, l, k, viewOf(l, []string{"b/d"}))
	k[0] = "j"
	sees(t, l, k, viewOf(l, []string{"j"}))
	shows(t, k, "b/d/e", false)
	l[0].Path = "0"
	sees(t, l, k, viewOf(l, k))
	refuses(t, l, []string{"j", "b"}, api.ErrCone)
	sees(t, l, k, viewOf(l, k))
	covers(t, k, nil)
	k[0] = "j/k"
	covers(t, k, []string{"j"})
	valid(t, k, true)
	k[0] = "j/"
	valid(t, k, false)
}

// P15.6

// follows holds what chapter 15 says of the cover of paths.
func follows(t *testing.T, ps []string) {
	t.Helper()
	k := cone.Cover(ps)
	if e := cone.Valid(k); e != api.OK {
		t.Fatalf("P15.6: Cover(%q): %q are no cones", ps, k)
	}
	all := func(k []string) bool {
		return !slices.ContainsFunc(ps, func(p string) bool { return !cone.Shows(k, p) })
	}
	if !all(k) {
		t.Fatalf("P15.6: Cover(%q): %q don't show all of it", ps, k)
	}
	for i := range k {
		if less := slices.Delete(slices.Clone(k), i, i+1); all(less) {
			t.Fatalf("P15.6: Cover(%q): %q show all of it too, without %q", ps, less, k[i])
		}
	}
}

func TestCoverFollows(t *testing.T) {
	lists(words("f a/f a/b/f a/b/c/f a.b/f ab/c/f b/f"), 4, func(ps []string) { follows(t, ps) })
	r := rand.New(rand.NewSource(1503))
	for range 2000 {
		var ps []string
		for range r.Intn(30) {
			ps = append(ps, anyPath(r, 6))
		}
		follows(t, ps)
		follows(t, pathsOf(anyFiles(r, 40, 5)))
	}
}

func view(t *testing.T, l []api.File, k []string) []api.File {
	t.Helper()
	v, e := cone.View(l, k)
	if e != api.OK {
		t.Fatalf("P15.6: View(%+v, %q): %d", l, k, e)
	}
	return v
}

// within: is each of m one of k, or below one?
func within(m, k []string) bool {
	return !slices.ContainsFunc(m, func(d string) bool {
		return !slices.ContainsFunc(k, func(c string) bool { return c == d || isAbove(c, d) })
	})
}

func TestViewsFollow(t *testing.T) {
	r := rand.New(rand.NewSource(1504))
	wider := 0
	for range 3000 {
		depth := 1 + r.Intn(5)
		l, k, m := anyFiles(r, 50, depth), anyCones(r, 8, depth), anyCones(r, 8, depth)
		v := view(t, l, k)
		if e := snap.Valid(v); e != api.OK {
			t.Fatalf("P15.6: View(%+v, %q) is no snapshot: %d", l, k, e)
		}
		if again := view(t, v, k); !slices.Equal(again, v) {
			t.Fatalf("P15.6: the view of View(%+v, %q) is another one:\n%+v", l, k, again)
		}
		for i := range m { // makes most of them narrower than k
			if len(k) > 0 && r.Intn(8) > 0 {
				m[i] = strings.TrimSuffix(k[r.Intn(len(k))]+"/"+strings.Repeat("a/", r.Intn(3)), "/")
			}
		}
		m = cone.Cover(inEach(m))
		if !within(m, k) {
			continue
		}
		wider++
		for _, f := range view(t, l, m) {
			if !slices.Contains(v, f) {
				t.Fatalf("P15.6: %q show %q, and the wider %q don't", m, f.Path, k)
			}
		}
	}
	if wider < 500 {
		t.Errorf("the test has only %d pairs", wider)
	}
}

// inEach are files right in some directories.
func inEach(dirs []string) []string {
	var ps []string
	for _, d := range dirs {
		ps = append(ps, d+"/f")
	}
	return ps
}

func TestWiderConesOfSmallWorlds(t *testing.T) {
	l := files(words("a.b/c/f a.b/f a/b/c/f a/b/f a/c/f a/f b/f f x/y/z/f")...)
	cones := [][]string{{""}}
	parts(words("a a/b a/b/c a/b/c/d a/c a.b a.b/c b x/y"), func(k []string) {
		slices.SortFunc(k, byPieces)
		if areCones(k) {
			cones = append(cones, k)
		}
	})
	for _, k := range cones {
		v := pathsOf(view(t, l, k))
		for _, m := range cones {
			if !within(m, k) {
				continue
			}
			for _, p := range pathsOf(view(t, l, m)) {
				if !slices.Contains(v, p) {
					t.Errorf("P15.6: %q show %q, and the wider %q don't", m, p, k)
				}
			}
		}
	}
}

func TestNoConesAndTheRoot(t *testing.T) {
	r := rand.New(rand.NewSource(1505))
	for range 500 {
		l := anyFiles(r, r.Intn(60), 1+r.Intn(5))
		var own []api.File
		for _, f := range l {
			if !strings.Contains(f.Path, "/") {
				own = append(own, f)
			}
		}
		if v := view(t, l, nil); !slices.Equal(v, own) {
			t.Fatalf("P15.6: no cones show %+v of %+v", v, l)
		}
		if v := view(t, l, []string{""}); !slices.Equal(v, l) {
			t.Fatalf("P15.6: the root shows %+v of %+v", v, l)
		}
	}
}

// TestClosuresOfBuilds: under the cover of a closure the closure is the same, and without one of the cones there is none.
func TestClosuresOfBuilds(t *testing.T) {
	manifest := func(p, text string) api.File { return api.File{Path: p, Text: text, Size: len(text)} }
	l := []api.File{
		manifest("TARGETS", "target a { srcs = [r.c] deps = [//x:b] }"),
		{Path: "r.c"},
		{Path: "s.c"},
		manifest("x/TARGETS", "target b { srcs = [a.c, y/z/*.h] deps = [//x/w:c] see = [public] }"),
		{Path: "x/a.c"},
		manifest("x/w/TARGETS", "target c { srcs = [] see = [public] } target d { deps = [//z/v:e] }"),
		{Path: "x/y/q/b"},
		{Path: "x/y/z/a.h"},
		manifest("z/v/TARGETS", "target e { srcs = [u/f] see = [public] }"),
		{Path: "z/v/u/f"},
		{Path: "z/w/f"},
	}
	for _, c := range []struct {
		label api.Label
		want  string
	}{
		{api.Label{Pkg: "", Name: "a"}, "x"},
		{api.Label{Pkg: "x/w", Name: "c"}, "x/w"},
		{api.Label{Pkg: "x/w", Name: "d"}, "x/w z/v"},
		{api.Label{Pkg: "z/v", Name: "e"}, "z/v"},
	} {
		labels := []api.Label{c.label}
		ps, f := closure.Of(l, labels)
		if f.Code != api.OK {
			t.Fatalf("no build of %v: %+v", c.label, f)
		}
		covers(t, ps, words(c.want))
		k := cone.Cover(ps)
		if again, f := closure.Of(view(t, l, k), labels); f.Code != api.OK || !slices.Equal(again, ps) {
			t.Errorf("P15.6: under %q the closure of %v is %q, %+v, want %q", k, c.label, again, f, ps)
		}
		for i := range k {
			less := slices.Delete(slices.Clone(k), i, i+1)
			if _, f := closure.Of(view(t, l, less), labels); f.Code != api.ErrMissing {
				t.Errorf("P15.6: without %q there is a build of %v: %+v", k[i], c.label, f)
			}
		}
	}
}
