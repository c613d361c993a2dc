package trie_test

import (
	"fmt"
	"math"
	"math/big"
	"math/rand"
	"slices"
	"strings"
	"testing"

	"copse/api"
	"copse/trie"
)

func sized(p string, size int) api.File { return api.File{Path: p, Size: size} }

// target is a manifest: its size is its text's length.
func target(p, text string) api.File { return api.File{Path: p, Text: text, Size: len(text)} }

// numbered are n files in some directories, each of one size.
func numbered(n, size int) []api.File {
	var l []api.File
	for i := range n {
		l = append(l, sized(fmt.Sprintf("n/%03d/f", i), size))
	}
	return l
}

func grown(t *testing.T, l ...api.File) *trie.Trie {
	t.Helper()
	x, e := trie.New(l)
	if x == nil || e != api.OK {
		t.Fatalf("P5.1: New(%+v): %v, %d", l, x, e)
	}
	return x
}

// told is all that a tree tells of a directory.
type told struct {
	files, dirs      []string
	count, size, own int
}

func ask(x *trie.Trie, dir string) told {
	return told{x.Files(dir), x.Dirs(dir), x.Count(dir), x.Size(dir), x.Own(dir)}
}

func (a told) same(b told) bool {
	return slices.Equal(a.files, b.files) && slices.Equal(a.dirs, b.dirs) && a.count == b.count && a.size == b.size && a.own == b.own
}

// The oracle: the chapter's words over a bare heap of files, with nothing kept but these.

type heap map[string]api.File

func heapOf(l ...api.File) heap {
	h := heap{}
	for _, f := range l {
		h[f.Path] = f
	}
	return h
}

func over(a, b string) bool {
	return b != "" && (a == "" || strings.HasPrefix(b, a+"/"))
}

func dirOf(p string) string {
	return p[:max(strings.LastIndexByte(p, '/'), 0)]
}

func byPieces(a, b string) int {
	return slices.Compare(strings.Split(a, "/"), strings.Split(b, "/"))
}

// list gives the files by path.
func (h heap) list() []api.File {
	var l []api.File
	for _, f := range h {
		l = append(l, f)
	}
	slices.SortFunc(l, func(f, g api.File) int { return byPieces(f.Path, g.Path) })
	return l
}

func (h heap) add(f api.File) api.Errno {
	if slices.Contains(noPaths, f.Path) {
		return api.ErrPath
	}
	if _, there := h[f.Path]; there {
		return api.ErrThere
	}
	manifest := f.Path == "TARGETS" || strings.HasSuffix(f.Path, "/TARGETS")
	switch {
	case len(h) == 512, f.Blob < 0, f.Blob > 1<<60, f.Size < 0, f.Size > 1<<62:
		return api.ErrSnap
	case manifest && (f.Blob != 0 || f.Size != len(f.Text)), !manifest && f.Text != "":
		return api.ErrSnap
	}
	for p := range h {
		if over(p, f.Path) || over(f.Path, p) {
			return api.ErrSnap
		}
	}
	h[f.Path] = f
	return api.OK
}

func (h heap) drop(p string) api.Errno {
	if _, there := h[p]; !there {
		return api.ErrNone
	}
	delete(h, p)
	return api.OK
}

func (h heap) told(dir string) told {
	var w told
	all, own := new(big.Int), new(big.Int)
	for p, f := range h {
		size := big.NewInt(int64(f.Size))
		if over(dir, p) {
			w.count++
			all.Add(all, size)
		}
		if dirOf(p) == dir {
			w.files = append(w.files, p)
			own.Add(own, size)
		}
		for d := dirOf(p); d != ""; d = dirOf(d) {
			if dirOf(d) == dir && !slices.Contains(w.dirs, d) {
				w.dirs = append(w.dirs, d)
			}
		}
	}
	slices.SortFunc(w.files, byPieces)
	slices.SortFunc(w.dirs, byPieces)
	w.size, w.own = capped(all), capped(own)
	return w
}

func capped(n *big.Int) int {
	if n.IsInt64() {
		return int(n.Int64())
	}
	return math.MaxInt64
}

// places are all that may be a directory for some files, the files' own paths, and texts near them.
func places(paths ...string) []string {
	all := []string{"", "/", "//", ".", "..", "z", " ", "\x00", "é", "\xff", strings.Repeat("/", 1<<16), strings.Repeat("a/", 70)}
	for _, p := range paths {
		for d := p; d != ""; d = dirOf(d) {
			all = append(all, d, d+"/", "/"+d, d+"//", d+"/z", d+"/.", d+"-", d[:len(d)-1], d+"\x00")
		}
	}
	slices.Sort(all)
	return slices.Compact(all)
}

func holds(t *testing.T, x *trie.Trie, h heap, asked []string, what string) {
	t.Helper()
	for _, dir := range asked {
		if got, want := ask(x, dir), h.told(dir); !got.same(want) {
			t.Errorf("%s: %q of %+v: %+v, want %+v", what, dir, h.list(), got, want)
		}
	}
}

// noPaths are no places of a file, each for its own reason.
var noPaths = []string{
	"", "/", "a/", "/a", "a//b", ".", "..", "a/...", "a b", "a:b", "\xff", "a\x00",
	strings.Repeat("d/", 12) + "f", strings.Repeat("c", 33), strings.Repeat(strings.Repeat("c", 29)+"/", 4) + "f",
}

// P5.1

func TestNew(t *testing.T) {
	for _, l := range [][]api.File{
		nil,
		{},
		{sized("a", 1)},
		{sized("a/b/y", 7), sized("a/x", 5), sized("c", 2)},
		{sized("B", 1), target("TARGETS", "xy"), target("a/TARGETS", ""), {Path: "a/b", Blob: 9, Size: 4}, sized("a-b", 0), sized("ab", 3)},
		{sized("TARGETS/x", 3), sized("a/TARGETS/TARGETS/y", 4)},
		{sized(strings.Repeat("d/", 11)+"f", 1), sized(strings.Repeat(strings.Repeat("e", 29)+"/", 3)+strings.Repeat("e", 30), 2)},
		numbered(512, 3),
	} {
		x := grown(t, l...)
		var at []string
		for _, f := range l[:min(len(l), 20)] {
			at = append(at, f.Path)
		}
		holds(t, x, heapOf(l...), places(at...), "P5.1")
	}
}

func TestNewOfNoSnapshot(t *testing.T) {
	cases := []struct {
		l    []api.File
		want api.Errno
	}{
		{[]api.File{sized("b", 1), sized("a", 1)}, api.ErrSnap},
		{[]api.File{sized("a", 1), sized("a", 1)}, api.ErrSnap},
		{[]api.File{sized("a", 1), sized("a/b", 1)}, api.ErrSnap},
		{[]api.File{sized("a-b", 1), sized("a/b", 1)}, api.ErrSnap},
		{[]api.File{sized("a", -1)}, api.ErrSnap},
		{[]api.File{sized("a", 1<<62+1)}, api.ErrSnap},
		{[]api.File{{Path: "a", Blob: -1}}, api.ErrSnap},
		{[]api.File{{Path: "a", Text: "x", Size: 1}}, api.ErrSnap},
		{[]api.File{sized("TARGETS", 1)}, api.ErrSnap},
		{[]api.File{{Path: "TARGETS", Blob: 1}}, api.ErrSnap},
		{numbered(513, 0), api.ErrSnap},
		{append(numbered(513, 0), sized("z/", 0)), api.ErrPath},
		{[]api.File{sized("b", -1), sized("a", 0), sized("", 0)}, api.ErrPath},
	}
	for _, p := range noPaths {
		cases = append(cases, struct {
			l    []api.File
			want api.Errno
		}{[]api.File{sized("b", 1), sized(p, 1), sized("a", -1)}, api.ErrPath})
	}
	for _, c := range cases {
		if x, e := trie.New(c.l); x != nil || e != c.want {
			t.Errorf("P5.1: New(%+v): %v, %d, want none and %d", c.l, x, e, c.want)
		}
	}
}

// P5.2, P5.3, P5.4, P5.5: the chapter's examples.

func example(t *testing.T) *trie.Trie {
	return grown(t, sized("a/b/y", 7), sized("a/x", 5), sized("c", 2))
}

func TestExample1(t *testing.T) {
	x := example(t)
	for dir, want := range map[string]told{
		"":      {[]string{"c"}, []string{"a"}, 3, 14, 2},
		"a":     {[]string{"a/x"}, []string{"a/b"}, 2, 12, 5},
		"a/b":   {[]string{"a/b/y"}, nil, 1, 7, 7},
		"c":     {},
		"z":     {},
		"a/":    {},
		"a/x":   {},
		"a/b/y": {},
		"/a":    {},
		"/":     {},
		"a//b":  {},
		"A":     {},
	} {
		if got := ask(x, dir); !got.same(want) {
			t.Errorf("P5.4, P5.5: %q: %+v, want %+v", dir, got, want)
		}
	}
}

func TestExample2(t *testing.T) {
	x := example(t)
	add := func(f api.File) api.Errno { return x.Add(f) }
	drop := func(f api.File) api.Errno { return x.Drop(f.Path) }
	h := heapOf(sized("a/b/y", 7), sized("a/x", 5), sized("c", 2))
	for i, c := range []struct {
		call func(api.File) api.Errno
		f    api.File
		want api.Errno
	}{
		{add, sized("a/b", 1), api.ErrSnap},
		{add, sized("c/d", 1), api.ErrSnap},
		{add, sized("c", 1), api.ErrThere},
		{add, sized("", 1), api.ErrPath},
		{add, sized("d", -1), api.ErrSnap},
		{drop, sized("a/b/y", 0), api.OK},
		{drop, sized("a/b/y", 0), api.ErrNone},
		{drop, sized("a", 0), api.ErrNone},
		{drop, sized("a/b", 0), api.ErrNone},
		{add, sized("a/b", 6), api.OK},
	} {
		if e := c.call(c.f); e != c.want {
			t.Errorf("P5.2, P5.3: call %d, %q: %d, want %d", i, c.f.Path, e, c.want)
		}
		if i == 5 {
			delete(h, "a/b/y")
		}
		if i == 9 {
			h["a/b"] = c.f
		}
		holds(t, x, h, places("a/b/y", "a/x", "c/d", "d"), "P5.2, P5.3")
	}
}

func TestExample3(t *testing.T) {
	x := grown(t, sized("a/x", 1<<62), sized("a/y", 1<<62))
	if n := x.Size("a"); n != 1<<63-1 {
		t.Errorf("P5.5: Size: %d", n)
	}
	if e := x.Drop("a/x"); e != api.OK || x.Size("a") != 1<<62 {
		t.Errorf("P5.3, P5.5: %d, Size: %d", e, x.Size("a"))
	}
}

// P5.2

// TestAddRefuses holds each error, that the first named is told, and that nothing has changed behind it.
func TestAddRefuses(t *testing.T) {
	l := []api.File{target("TARGETS", "t"), sized("a/b/c", 1), sized("a/b/d", 2), sized("e", 3)}
	type refusal struct {
		f    api.File
		want api.Errno
	}
	cases := []refusal{
		{sized("e", 3), api.ErrThere},
		{sized("e", 4), api.ErrThere},
		{sized("e", -1), api.ErrThere},
		{api.File{Path: "e", Text: "x"}, api.ErrThere},
		{sized("TARGETS", 9), api.ErrThere},
		{target("TARGETS", "u"), api.ErrThere},
		{sized("a/b/c", 1<<62+1), api.ErrThere},
		{sized("a", 0), api.ErrSnap},
		{sized("a/b", 0), api.ErrSnap},
		{sized("a", -1), api.ErrSnap},
		{sized("e/f", 0), api.ErrSnap},
		{sized("e/f/g/h", 0), api.ErrSnap},
		{sized("e/e", 0), api.ErrSnap},
		{target("e/TARGETS", "x"), api.ErrSnap},
		{sized("TARGETS/x", 0), api.ErrSnap},
		{target("TARGETS/TARGETS", ""), api.ErrSnap},
		{sized("a/b/c/d", 0), api.ErrSnap},
		{sized("f", -1), api.ErrSnap},
		{sized("f", 1<<62+1), api.ErrSnap},
		{sized("f", math.MinInt), api.ErrSnap},
		{sized("f", math.MaxInt), api.ErrSnap},
		{api.File{Path: "f", Blob: -1}, api.ErrSnap},
		{api.File{Path: "f", Blob: 1<<60 + 1}, api.ErrSnap},
		{api.File{Path: "f", Text: "x"}, api.ErrSnap},
		{target("f", "x"), api.ErrSnap},
		{sized("f/TARGETS", 1), api.ErrSnap},
		{api.File{Path: "f/TARGETS", Text: "x", Size: 2}, api.ErrSnap},
		{api.File{Path: "f/TARGETS", Blob: 1}, api.ErrSnap},
	}
	for _, p := range noPaths {
		cases = append(cases, refusal{sized(p, 1), api.ErrPath}, refusal{sized(p, -1), api.ErrPath}, refusal{target(p, "x"), api.ErrPath})
	}
	x := grown(t, l...)
	asked := places("TARGETS", "a/b/c/d", "e/f/g/h", "f/TARGETS")
	for _, c := range cases {
		if e := x.Add(c.f); e != c.want {
			t.Errorf("P5.2: Add(%+v): %d, want %d", c.f, e, c.want)
		}
		holds(t, x, heapOf(l...), asked, fmt.Sprintf("P5.2: behind the refused %+v", c.f))
	}
	for _, p := range []string{"TARGETS", "a/b/c", "a/b/d", "e"} { // all are there still, and no other
		if e := x.Drop(p); e != api.OK {
			t.Errorf("P5.2: Drop(%q): %d", p, e)
		}
	}
	holds(t, x, heap{}, asked, "P5.2: with none left")
}

func TestAdd(t *testing.T) {
	x, h := grown(t), heap{}
	asked := places("a/b/c/d", "ab/c", "a-b/TARGETS", "TARGETS", "B")
	for _, f := range []api.File{
		sized("a/b/c/d", 4), sized("a/b/c/e", 1), sized("a-b/c", 0), sized("a/c", 1<<62), sized("ab/c", 8),
		target("a-b/TARGETS", "xyz"), target("TARGETS", ""), {Path: "B", Blob: 1 << 60, Size: 1 << 62}, sized("a/b/TARGETS/x", 2),
	} {
		if e := x.Add(f); e != api.OK {
			t.Errorf("P5.2: Add(%+v): %d", f, e)
		}
		h[f.Path] = f
		holds(t, x, h, asked, "P5.2")
	}
}

func TestAddOfMany(t *testing.T) {
	l := numbered(512, 5)
	x := grown(t, l[:510]...)
	for i, c := range []struct {
		f    api.File
		want api.Errno
	}{
		{l[510], api.OK},
		{l[511], api.OK},
		{sized("z", 1), api.ErrSnap},
		{sized("n/512/f", 1), api.ErrSnap},
		{target("TARGETS", "x"), api.ErrSnap},
		{sized("n", 1), api.ErrSnap},
		{l[0], api.ErrThere},
		{sized(l[511].Path, -1), api.ErrThere},
		{sized("z/", 1), api.ErrPath},
		{sized("", 1), api.ErrPath},
	} {
		if e := x.Add(c.f); e != c.want {
			t.Errorf("P5.2: %d: Add(%+v): %d, want %d", i, c.f, e, c.want)
		}
	}
	holds(t, x, heapOf(l...), []string{"", "n", "n/000", "n/511", "n/512", "z"}, "P5.2")
	if e := x.Drop(l[77].Path); e != api.OK {
		t.Errorf("P5.3: Drop: %d", e)
	}
	if one, two := x.Add(sized("z", 1)), x.Add(l[77]); one != api.OK || two != api.ErrSnap {
		t.Errorf("P5.2: one more, and one too many: %d, %d", one, two)
	}
}

// P5.3

func TestDropOfNone(t *testing.T) {
	l := []api.File{target("TARGETS", "t"), sized("a/b/c", 1), sized("a/d", 2), sized("e", 3)}
	x := grown(t, l...)
	asked := places("TARGETS", "a/b/c", "a/d", "e")
	for _, p := range asked {
		if slices.ContainsFunc(l, func(f api.File) bool { return f.Path == p }) {
			continue
		}
		if e := x.Drop(p); e != api.ErrNone {
			t.Errorf("P5.3: Drop(%q): %d, want ErrNone", p, e)
		}
	}
	holds(t, x, heapOf(l...), asked, "P5.3: behind what was not there")
	if e := grown(t).Drop(""); e != api.ErrNone {
		t.Errorf("P5.3: Drop of the root of none: %d", e)
	}
}

func TestDropTakesDirectories(t *testing.T) {
	deep := strings.Repeat("d/", 11)
	x := grown(t, sized("a/b/c/f", 1), sized("a/g", 2), sized(deep+"f", 4), sized(deep+"g", 8))
	h := heapOf(sized("a/b/c/f", 1), sized("a/g", 2), sized(deep+"f", 4), sized(deep+"g", 8))
	asked := places("a/b/c/f", "a/g", deep+"f", deep+"g")
	for _, p := range []string{"a/b/c/f", deep + "f", deep + "g", "a/g"} {
		if e := x.Drop(p); e != api.OK {
			t.Errorf("P5.3: Drop(%q): %d", p, e)
		}
		delete(h, p)
		holds(t, x, h, asked, "P5.3: behind "+p)
		if e := x.Drop(p); e != api.ErrNone {
			t.Errorf("P5.3: Drop(%q) again: %d", p, e)
		}
	}
	for _, f := range []api.File{sized("a", 16), sized("d", 32)} { // where directories were, files may be
		if e := x.Add(f); e != api.OK {
			t.Errorf("P5.3: Add(%+v): %d", f, e)
		}
		h[f.Path] = f
	}
	holds(t, x, h, asked, "P5.3: with files where directories were")
}

// P5.4

func TestOrderOfLists(t *testing.T) {
	var l []api.File
	names := []string{"-", "0", "A", "Z", "_", "a", "a-", "a-b", "a.", "a0", "aA", "ab", "b", "z"}
	for _, name := range names {
		l = append(l, sized("p/"+name+"/x", 1))
	}
	for _, name := range names {
		l = append(l, sized("q/"+name, 1))
	}
	x := grown(t, l...)
	holds(t, x, heapOf(l...), []string{"", "p", "q", "p/a", "p/a-b"}, "P5.4")
	for range 50 { // whatever order a map is gone through
		if got := x.Files("q"); !slices.Equal(got, x.Files("q")) || !slices.IsSortedFunc(got, byPieces) {
			t.Fatalf("P5.4: Files: %q", got)
		}
		if got := x.Dirs("p"); !slices.Equal(got, x.Dirs("p")) || !slices.IsSortedFunc(got, byPieces) {
			t.Fatalf("P5.4: Dirs: %q", got)
		}
	}
}

// P5.5

// TestSums goes up above MaxTotal, above what 64 bits hold, and down again.
func TestSums(t *testing.T) {
	for _, size := range []int{1 << 62, 1<<62 - 1, 1 << 61, 1} {
		x, h := grown(t), heap{}
		asked := []string{"", "n", "n/0", "n/3", "o"}
		step := func(i int, call func(p string) api.Errno) {
			if e := call(fmt.Sprintf("n/%d/%03d", i%4, i)); e != api.OK {
				t.Fatalf("P5.5: step %d: %d", i, e)
			}
			if i < 20 || i > 500 {
				holds(t, x, h, asked, "P5.5")
			}
		}
		for i := range 512 {
			step(i, func(p string) api.Errno {
				h[p] = sized(p, size)
				return x.Add(h[p])
			})
		}
		for i := range 512 {
			step(511-i, func(p string) api.Errno {
				delete(h, p)
				return x.Drop(p)
			})
		}
	}
}

func TestSumsAtTheEdge(t *testing.T) {
	for _, c := range []struct {
		sizes []int
		want  int
	}{
		{[]int{1 << 62, 1<<62 - 2}, 1<<63 - 2},
		{[]int{1 << 62, 1<<62 - 1}, 1<<63 - 1},
		{[]int{1 << 62, 1<<62 - 1, 1}, 1<<63 - 1},
		{[]int{1 << 62, 1 << 62}, 1<<63 - 1},
		{[]int{1 << 62, 1 << 62, 1 << 62, 1 << 62}, 1<<63 - 1},             // 2^64
		{[]int{1 << 62, 1 << 62, 1 << 62, 1 << 62, 1}, 1<<63 - 1},          // 2^64 + 1
		{[]int{1 << 62, 1 << 62, 1 << 62, 1<<62 - 1}, 1<<63 - 1},           // 2^64 - 1
		{[]int{1 << 62, 1 << 62, 1 << 62, 1 << 62, 1 << 62}, 1<<63 - 1},    // 2^64 + 2^62
		{[]int{1 << 62, 1 << 62, 1 << 62, 1 << 62, 0, 0, 0, 7}, 1<<63 - 1}, // 2^64 + 7
	} {
		var own, below []api.File
		for i, n := range c.sizes {
			own = append(own, sized(fmt.Sprintf("a/%d", i), n))
			below = append(below, sized(fmt.Sprintf("a/%d/x", i), n))
		}
		if got := ask(grown(t, own...), "a"); got.size != c.want || got.own != c.want {
			t.Errorf("P5.5: %v in a: %d, %d, want %d", c.sizes, got.size, got.own, c.want)
		}
		if got := ask(grown(t, below...), "a"); got.size != c.want || got.own != 0 {
			t.Errorf("P5.5: %v below a: %d, %d, want %d, 0", c.sizes, got.size, got.own, c.want)
		}
	}
}

// P5.6

var (
	pieces = []api.File{
		sized("a", 1), sized("a/b", 2), sized("a/b/c", 4), sized("a/d", 1<<62), sized("a-b", 8), sized("a-b/c", 1<<62), sized("ab", 1<<62), target("TARGETS", "t"),
	}
	wrong = []api.File{sized("", 1), sized("a/", 1), sized("a/b", -1), {Path: "ab", Text: "x"}}
)

// TestAllShortScripts does every script of up to 4 calls, and holds what the tree tells against the heap.
func TestAllShortScripts(t *testing.T) {
	type call struct {
		f    api.File
		drop bool
	}
	var calls []call
	for _, f := range pieces {
		calls = append(calls, call{f, false}, call{f, true})
	}
	for _, f := range wrong {
		calls = append(calls, call{f, false})
	}
	asked := []string{"", "a", "a/b", "a/b/c", "a/d", "a-b", "ab", "TARGETS", "a/", "b"}
	var script []call
	var grow func(left int)
	grow = func(left int) {
		x, h := grown(t), heap{}
		for _, c := range script {
			var got, want api.Errno
			if c.drop {
				got, want = x.Drop(c.f.Path), h.drop(c.f.Path)
			} else {
				got, want = x.Add(c.f), h.add(c.f)
			}
			if got != want {
				t.Fatalf("P5.2, P5.3: %+v: %d, want %d", script, got, want)
			}
		}
		holds(t, x, h, asked, "P5.6")
		if left == 0 {
			return
		}
		for _, c := range calls {
			script = append(script, c)
			grow(left - 1)
			script = script[:len(script)-1]
		}
	}
	grow(4)
}

// follows holds the promise's equations at every directory of a tree.
func follows(t *testing.T, x *trie.Trie, dir string) {
	t.Helper()
	w := ask(x, dir)
	count := len(w.files)
	size := big.NewInt(int64(w.own))
	for _, d := range w.dirs {
		count += x.Count(d)
		size.Add(size, big.NewInt(int64(x.Size(d))))
		if slices.Contains(w.files, d) {
			t.Errorf("P5.6: %q is a file and a directory", d)
		}
		if x.Count(d) == 0 {
			t.Errorf("P5.6: nothing is in the directory %q", d)
		}
		follows(t, x, d)
	}
	if count != w.count || capped(size) != w.size {
		t.Errorf("P5.6: %q: %+v, but %d files of %s", dir, w, count, size)
	}
}

// TestLongScripts adds and drops at random places, by fixed seeds, and holds the tree against New of what is left.
func TestLongScripts(t *testing.T) {
	sizes := []int{0, 1, 5, 1 << 40, 1 << 62, 1<<62 - 1, -1}
	names := []string{"a", "b", "a-b", "TARGETS"}
	for seed := range int64(20) {
		r := rand.New(rand.NewSource(seed))
		x, h := grown(t), heap{}
		randomPath := func() string {
			p := names[r.Intn(len(names))]
			for r.Intn(3) > 0 && len(p) < 20 {
				p += "/" + names[r.Intn(len(names))]
			}
			return p
		}
		seen := []string{""}
		for step := range 400 {
			p := randomPath()
			if r.Intn(2) == 0 && len(h) > 0 {
				p = h.list()[r.Intn(len(h))].Path
			}
			f := sized(p, sizes[r.Intn(len(sizes))])
			if strings.HasSuffix(p, "TARGETS") {
				f = target(p, strings.Repeat("x", r.Intn(4)))
			}
			got, want := x.Drop(p), h.drop(p)
			if got != want {
				t.Fatalf("P5.3: seed %d, step %d: Drop(%q): %d, want %d", seed, step, p, got, want)
			}
			if r.Intn(3) > 0 {
				if got, want := x.Add(f), h.add(f); got != want {
					t.Fatalf("P5.2: seed %d, step %d: Add(%+v): %d, want %d", seed, step, f, got, want)
				}
			}
			seen = append(seen, p, dirOf(p))
			holds(t, x, h, []string{"", p, dirOf(p), seen[r.Intn(len(seen))]}, "P5.6")
		}
		follows(t, x, "")
		y := grown(t, h.list()...)
		for _, dir := range seen {
			if got, want := ask(x, dir), ask(y, dir); !got.same(want) {
				t.Errorf("P5.6: seed %d: %q: %+v, New of what is left: %+v", seed, dir, got, want)
			}
		}
		if x.Count("") != len(h) {
			t.Errorf("P5.6: seed %d: Count: %d of %d", seed, x.Count(""), len(h))
		}
	}
}

// P5.7

func TestListsAreNew(t *testing.T) {
	l := []api.File{sized("a/b/y", 7), sized("a/c/z", 1), sized("a/x", 5), sized("c", 2), sized("d", 3)}
	x := grown(t, l...)
	asked := []string{"", "a", "a/b", "c"}
	for _, dir := range asked {
		for _, list := range [][]string{x.Files(dir), x.Dirs(dir)} {
			for i := range list[:cap(list)] {
				list[:cap(list)][i] = "spoilt"
			}
		}
	}
	holds(t, x, heapOf(l...), asked, "P5.7: behind answers that were written over")
	held := ask(x, "")
	for _, f := range l {
		x.Drop(f.Path)
	}
	if !slices.Equal(held.files, []string{"c", "d"}) || !slices.Equal(held.dirs, []string{"a"}) {
		t.Errorf("P5.7: an answer changed with its tree: %+v", held)
	}
}

func TestTreesShareNothing(t *testing.T) {
	l := []api.File{sized("a/b/y", 7), sized("a/x", 5), sized("c", 2)}
	x, y := grown(t, l...), grown(t, l...)
	asked := places("a/b/y", "a/x", "c", "a/b/z")
	for _, f := range l {
		x.Drop(f.Path)
	}
	x.Add(sized("a/b/z", 9))
	holds(t, x, heapOf(sized("a/b/z", 9)), asked, "P5.7: the one")
	holds(t, y, heapOf(l...), asked, "P5.7: the other")
}

func TestWhatIsHandedInStays(t *testing.T) {
	room := []api.File{sized("a/b", 7), sized("c", 2), sized("!", -1), sized("a/b", -2)}
	was := slices.Clone(room)
	x := grown(t, room[:2]...)
	stays := func(what string) {
		if !slices.Equal(room, was) {
			t.Fatalf("P5.7: %s changed what was handed in: %+v", what, room)
		}
	}
	stays("New")
	x.Add(sized("d/e", 4))
	x.Drop("a/b")
	stays("Add and Drop")
	trie.New(room)
	stays("a refused New")
	clear(room)
	holds(t, x, heapOf(sized("c", 2), sized("d/e", 4)), places("a/b", "c", "d/e"), "P5.7: behind a list that was written over")
}
