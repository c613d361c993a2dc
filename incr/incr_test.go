package incr_test

import (
	"bytes"
	"fmt"
	"math"
	"regexp"
	"slices"
	"strconv"
	"strings"
	"testing"

	"copse/api"
	"copse/cache"
	"copse/compile"
	"copse/delta"
	"copse/incr"
)

const (
	half  = 1 << 62 // the greatest size of a file: two of them are one more than MaxTotal
	total = math.MaxInt64
)

// lab is the label of a text "a/b:n"; labs those of a text with blanks between.
func lab(text string) api.Label {
	pkg, name, _ := strings.Cut(text, ":")
	return api.Label{Pkg: pkg, Name: name}
}

func labs(text string) []api.Label {
	var l []api.Label
	for _, w := range strings.Fields(text) {
		l = append(l, lab(w))
	}
	return l
}

// files are a snapshot: a manifest's text stands behind its path and a colon, another file's size behind its path and "=": h is half; without one it is 10.
func files(words ...string) []api.File {
	var l []api.File
	for _, w := range words {
		if p, text, isText := strings.Cut(w, ":"); isText {
			l = append(l, api.File{Path: p, Text: text, Size: len(text)})
			continue
		}
		p, size, isSized := strings.Cut(w, "=")
		f := api.File{Path: p, Blob: 7, Size: 10}
		if isSized {
			f.Size = sizeOf(size)
		}
		l = append(l, f)
	}
	slices.SortFunc(l, byFiles)
	return l
}

func sizeOf(s string) int {
	less, isHalf := strings.CutPrefix(s, "h")
	n, _ := strconv.Atoi(less)
	if isHalf {
		n += half
	}
	return n
}

// without leaves files out, with puts some in or in their places.
func without(l []api.File, ps ...string) []api.File {
	return slices.DeleteFunc(slices.Clone(l), func(f api.File) bool { return slices.Contains(ps, f.Path) })
}

func with(l []api.File, words ...string) []api.File {
	more := files(words...)
	for _, f := range more {
		l = without(l, f.Path)
	}
	l = append(l, more...)
	slices.SortFunc(l, byFiles)
	return l
}

func pieces(p string) []string {
	if p == "" {
		return nil
	}
	return strings.Split(p, "/")
}

func byFiles(a, b api.File) int { return slices.Compare(pieces(a.Path), pieces(b.Path)) }

func byLabels(a, b api.Label) int {
	if n := slices.Compare(pieces(a.Pkg), pieces(b.Pkg)); n != 0 {
		return n
	}
	return strings.Compare(a.Name, b.Name)
}

func sorted(l []api.Label) []api.Label {
	l = slices.Clone(l)
	slices.SortFunc(l, byLabels)
	return l
}

var component = regexp.MustCompile(`\A[a-zA-Z0-9._-]{1,32}\z`)

func isComponent(s string) bool {
	return component.MatchString(s) && s != "." && s != ".." && s != "..."
}

func isLabel(a api.Label) bool {
	l := pieces(a.Pkg)
	for _, s := range l {
		if !isComponent(s) {
			return false
		}
	}
	return len(a.Pkg) <= 120 && len(l) <= 12 && isComponent(a.Name)
}

func sameFault(a, b api.Fault) bool {
	return a.Code == b.Code && a.Label == b.Label && a.Other == b.Other && a.Path == b.Path && a.At == b.At && slices.Equal(a.Circle, b.Circle)
}

// shown writes what a test is about, cut short where it is very long.
func shown(l []api.File, labels []api.Label, b int) string {
	s := ""
	for _, f := range l {
		s += fmt.Sprintf("%q=%d %q\n", f.Path, f.Size, f.Text)
	}
	if len(s) > 4000 {
		s = s[:4000] + " ..."
	}
	return fmt.Sprintf("%slabels %q, budget %d", s, labels[:min(len(labels), 70)], b)
}

// result asks for cones, or a fault.
func result(t *testing.T, promise string, c *incr.Compiler, fault api.Fault, want ...string) {
	t.Helper()
	if k, f := c.Result(); !slices.Equal(k, want) || !sameFault(f, fault) {
		t.Fatalf("%s: Result of\n%s: %q, %+v, want %q, %+v", promise, shown(c.Files(), c.Labels(), 0), k, f, want, fault)
	}
}

func code(e api.Errno) api.Fault { return api.Fault{Code: e} }

func missing(label, p string) api.Fault {
	return api.Fault{Code: api.ErrMissing, Label: lab(label), Path: p}
}

// twin is a compiler, and what it should have.
type twin struct {
	t      *testing.T
	c      *incr.Compiler
	files  []api.File
	labels []api.Label
	budget int
	saved  []byte // the last that were looked at
}

func begin(t *testing.T, l []api.File, labels []api.Label, b int) *twin {
	t.Helper()
	c, e := incr.New(l, labels, b)
	if e != api.OK || c == nil {
		t.Fatalf("P20.1: New of\n%s: one: %v, %d", shown(l, labels, b), c != nil, e)
	}
	return &twin{t: t, c: c, files: slices.Clone(l), labels: sorted(labels), budget: b}
}

// has looks at all that a compiler tells but its Result.
func (w *twin) has(promise string) {
	w.t.Helper()
	if l := w.c.Files(); !slices.Equal(l, w.files) {
		w.t.Fatalf("%s: Files():\n%+v, want\n%+v", promise, l, w.files)
	}
	if l := w.c.Labels(); !slices.Equal(l, w.labels) {
		w.t.Fatalf("%s: Labels(): %q, want %q", promise, l, w.labels)
	}
	b := w.c.Save()
	if len(b) > 0 && bytes.Equal(b, w.saved) {
		return
	}
	k, e := cache.Load(b)
	if e != api.OK || !bytes.Equal(k.Save(), b) || !bytes.Equal(w.c.Save(), b) {
		w.t.Fatalf("P20.4: Save() of\n%s: %q: %d", shown(w.files, w.labels, w.budget), b, e)
	}
	w.saved = b
}

// look asks for the Result, and then for all else.
func (w *twin) look(promise string) api.Fault {
	w.t.Helper()
	want, fault := compile.Run(w.files, w.labels, w.budget)
	if k, f := w.c.Result(); !slices.Equal(k, want) || !sameFault(f, fault) {
		w.t.Fatalf("%s: Result of\n%s:\n%q, %+v, want\n%q, %+v", promise, shown(w.files, w.labels, w.budget), k, f, want, fault)
	}
	w.has(promise)
	return fault
}

// answered holds an error against what it should be; behind one, and behind all that just asks, the bytes are as they were.
func (w *twin) answered(promise, what string, got, want api.Errno, before []byte) {
	w.t.Helper()
	if got != want {
		w.t.Fatalf("%s: %s of\n%s: %d, want %d", promise, what, shown(w.files, w.labels, w.budget), got, want)
	}
	if got != api.OK && !bytes.Equal(w.c.Save(), before) {
		w.t.Fatalf("%s: %s was refused, but has changed what was parsed", promise, what)
	}
	w.has(promise)
}

func (w *twin) apply(d []api.Change) api.Errno {
	w.t.Helper()
	before := w.c.Save()
	l, e := delta.Apply(w.files, d)
	if e != api.OK {
		e = api.ErrDelta
	} else {
		w.files = l
	}
	w.answered("P20.2", fmt.Sprintf("Apply(%+v)", d[:min(len(d), 20)]), w.c.Apply(d), e, before)
	return e
}

// turn leads on to other files.
func (w *twin) turn(l []api.File) {
	w.t.Helper()
	if e := w.apply(delta.Diff(w.files, l)); e != api.OK || !slices.Equal(w.files, l) {
		w.t.Fatalf("the test's own delta is refused: %d", e)
	}
}

func (w *twin) add(a api.Label) api.Errno {
	w.t.Helper()
	before, want := w.c.Save(), api.OK
	switch {
	case !isLabel(a):
		want = api.ErrLabel
	case slices.Contains(w.labels, a):
		want = api.ErrThere
	case len(w.labels) == 64:
		want = api.ErrArg
	default:
		w.labels = sorted(append(w.labels, a))
	}
	w.answered("P20.2", fmt.Sprintf("Add(%q)", a), w.c.Add(a), want, before)
	return want
}

func (w *twin) drop(a api.Label) api.Errno {
	w.t.Helper()
	before, want := w.c.Save(), api.OK
	if !slices.Contains(w.labels, a) {
		want = api.ErrNone
	}
	w.labels = slices.DeleteFunc(w.labels, func(b api.Label) bool { return b == a })
	w.answered("P20.2", fmt.Sprintf("Drop(%q)", a), w.c.Drop(a), want, before)
	return want
}

func (w *twin) spend(b int) {
	w.t.Helper()
	before := w.c.Save()
	w.c.Budget(b)
	w.budget = b
	w.answered("P20.2", fmt.Sprintf("Budget(%d)", b), api.OK, api.OK, before)
}

// load is true just if the bytes are a cache's; then they are what was parsed.
func (w *twin) load(b []byte) bool {
	w.t.Helper()
	before := w.c.Save()
	_, e := cache.Load(b)
	if e == api.OK {
		before = b
	}
	if ok := w.c.Load(b); ok != (e == api.OK) {
		w.t.Fatalf("P20.4: Load(%q): %v, but cache.Load: %d", b, ok, e)
	}
	if !bytes.Equal(w.c.Save(), before) {
		w.t.Fatalf("P20.4: behind Load(%q), answered by %v, Save() has other bytes: %q", b, e == api.OK, w.c.Save())
	}
	w.has("P20.4")
	return e == api.OK
}

// The examples of the chapter.

func example() []api.File {
	s := "target x { srcs = [f] }"
	return []api.File{{Path: "a/TARGETS", Text: s, Size: len(s)}, {Path: "a/f", Blob: 1, Size: 2}, {Path: "b/g", Blob: 2, Size: 3}}
}

func TestExample1(t *testing.T) {
	w := begin(t, example(), labs("a:x"), 1)
	result(t, "P20.3", w.c, api.Fault{}, "a")
	if e := w.add(lab("a:x")); e != api.ErrThere {
		t.Errorf("P20.2: Add again: %d", e)
	}
	if e := w.drop(lab("b:y")); e != api.ErrNone {
		t.Errorf("P20.2: Drop of none: %d", e)
	}
	result(t, "P20.3", w.c, api.Fault{}, "a")
	if e := w.drop(lab("a:x")); e != api.OK {
		t.Errorf("P20.2: Drop: %d", e)
	}
	result(t, "P20.3", w.c, code(api.ErrArg))
	if e := w.add(lab("b:y")); e != api.OK {
		t.Errorf("P20.2: Add: %d", e)
	}
	result(t, "P20.3", w.c, missing("b:y", ""))
	w.look("P20.3")
}

func TestExample2(t *testing.T) {
	w := begin(t, example(), labs("a:x"), 1)
	next := example()
	next[1].Blob = 9
	d := []api.Change{{Path: "a/f", Had: true, Has: true, Old: example()[1], New: next[1]}}
	if e := w.c.Apply(d); e != api.OK || !slices.Equal(w.c.Files(), next) {
		t.Fatalf("P20.2: Apply: %d, %+v", e, w.c.Files())
	}
	w.files = next
	result(t, "P20.3", w.c, api.Fault{}, "a")
	before := w.c.Save()
	if e := w.c.Apply(d); e != api.ErrDelta || !slices.Equal(w.c.Files(), next) || !bytes.Equal(w.c.Save(), before) {
		t.Fatalf("P20.2: Apply again: %d, %+v", e, w.c.Files())
	}
	result(t, "P20.3", w.c, api.Fault{}, "a")
	w.look("P20.3")
}

func TestExample3(t *testing.T) {
	w := begin(t, example(), labs("a:x"), 1)
	for range 2 {
		if w.load(nil) || w.load([]byte{}) || w.load([]byte{1, 2, 3}) || !w.load(w.c.Save()) {
			t.Error("P20.4: Load")
		}
		result(t, "P20.4", w.c, api.Fault{}, "a")
	}
	w.c.Budget(0)
	result(t, "P20.3", w.c, code(api.ErrArg))
	w.c.Budget(1)
	result(t, "P20.3", w.c, api.Fault{}, "a")
}

func TestExample4(t *testing.T) {
	refuses(t, example(), labs("a:x a:x"), 1, api.ErrThere)
	refuses(t, example(), []api.Label{{Pkg: "a"}}, 1, api.ErrLabel)
	refuses(t, []api.File{{Path: "b"}, {Path: "a"}}, nil, 1, api.ErrSnap)
}

// P20.1

func refuses(t *testing.T, l []api.File, labels []api.Label, b int, want api.Errno) {
	t.Helper()
	if c, e := incr.New(l, labels, b); e != want || c != nil {
		t.Fatalf("P20.1: New of\n%s: one: %v, %d, want none, %d", shown(l, labels, b), c != nil, e, want)
	}
}

func budgets() []int {
	return []int{0, 1, -1, 2, 5, -5, 512, 513, math.MaxInt32, math.MinInt32, math.MaxInt, math.MinInt, math.MinInt + 1}
}

// numbered are so many labels, none twice.
func numbered(n int) []api.Label {
	var l []api.Label
	for i := range n {
		l = append(l, api.Label{Pkg: []string{"", "a", "p/q"}[i%3], Name: fmt.Sprintf("n%d", (i*7919)%100003)})
	}
	return l
}

// noSnapshots are lists that snap.Valid refuses, by its code.
func noSnapshots() map[api.Errno][][]api.File {
	many := make([]api.File, 513)
	for i := range many {
		many[i].Path = fmt.Sprintf("f%04d", i)
	}
	return map[api.Errno][][]api.File{
		api.ErrPath: {
			{{Path: ""}}, {{Path: "/"}}, {{Path: "a//b"}}, {{Path: "a/"}}, {{Path: "a/../b"}}, {{Path: "a\xff"}},
			{{Path: strings.Repeat("a/", 12) + "a"}}, {{Path: "b"}, {Path: "a"}, {Path: "c/"}}, {{Path: "a", Size: -1}, {Path: "."}},
			append(example(), api.File{Path: "..."}), slices.Concat(many, []api.File{{}}),
		},
		api.ErrSnap: {
			{{Path: "b"}, {Path: "a"}}, {{Path: "a"}, {Path: "a"}}, {{Path: "a"}, {Path: "a/b"}}, {{Path: "a", Text: "x", Size: 1}},
			{{Path: "a", Blob: -1}}, {{Path: "a", Blob: 1<<60 + 1}}, {{Path: "a", Size: -1}}, {{Path: "a", Size: 1<<62 + 1}},
			{{Path: "TARGETS", Text: "target a{}", Size: 9}}, {{Path: "TARGETS", Text: "bad", Size: 3, Blob: 1}},
			append(example(), example()[0]), many,
		},
	}
}

// noLabels are labels that may not be.
func noLabels() []api.Label {
	deep := strings.TrimSuffix(strings.Repeat("a/", 12), "/")
	return []api.Label{
		{}, {Pkg: "a"}, {Pkg: "/a", Name: "a"}, {Pkg: "a/", Name: "a"}, {Pkg: "//a", Name: "a"}, {Pkg: "a/..", Name: "a"}, {Pkg: "a\x00", Name: "a"}, {Pkg: "a//", Name: "x"},
		{Pkg: "a", Name: "."}, {Pkg: "a", Name: ".."}, {Pkg: "a", Name: "..."}, {Pkg: "a", Name: "a/b"}, {Pkg: "a", Name: "\xff"}, {Pkg: "a", Name: "//a:a"}, {Pkg: "a", Name: ":x"},
		{Pkg: "a", Name: strings.Repeat("n", 33)}, {Pkg: deep + "/a", Name: "a"}, {Pkg: strings.Repeat("a", 33), Name: "a"},
	}
}

// labelLists are lists with the error that they have by themselves.
type labelList struct {
	labels []api.Label
	want   api.Errno
}

func labelLists() []labelList {
	all := []labelList{
		{labs("a:x a:x"), api.ErrThere}, {labs("a:x b:y a:x"), api.ErrThere}, {labs("a:x a:x a:x"), api.ErrThere}, {labs(":x :x"), api.ErrThere},
		{labs("c:z a/b:x q:n c:z"), api.ErrThere}, {slices.Repeat(labs("a:x"), 65), api.ErrThere}, {slices.Repeat(labs("a:x"), 1000), api.ErrThere},
		{numbered(65), api.ErrArg}, {numbered(66), api.ErrArg}, {numbered(1000), api.ErrArg}, {numbered(20000), api.ErrArg},
		{append(numbered(65), numbered(1)...), api.ErrThere}, {append(numbered(64), numbered(64)[63]), api.ErrThere}, {append(numbered(1000), numbered(1000)[500]), api.ErrThere},
	}
	for _, a := range noLabels() {
		all = append(all, labelList{[]api.Label{a}, api.ErrLabel}, labelList{[]api.Label{a, a}, api.ErrLabel}, labelList{append(labs("a:x b:y"), a), api.ErrLabel},
			labelList{append(labs("a:x a:x"), a), api.ErrLabel}, labelList{append([]api.Label{a}, labs("a:x a:x")...), api.ErrLabel},
			labelList{append(numbered(65), a), api.ErrLabel}, labelList{append([]api.Label{a}, numbered(64)...), api.ErrLabel}, labelList{append(slices.Repeat(labs("a:x"), 70), a), api.ErrLabel})
	}
	return all
}

func TestNewRefuses(t *testing.T) {
	for _, b := range []int{1, 0, -3, math.MaxInt} {
		for _, c := range labelLists() {
			for _, l := range [][]api.File{nil, example()} {
				refuses(t, l, c.labels, b, c.want)
			}
		}
		for want, lists := range noSnapshots() {
			for _, l := range lists {
				refuses(t, l, nil, b, want)
				refuses(t, l, labs("a:x"), b, want)
			}
		}
	}
	for want, lists := range noSnapshots() {
		for _, l := range lists {
			for _, c := range labelLists() {
				if len(c.labels) < 100 {
					refuses(t, l, c.labels, 1, want)
				}
			}
		}
	}
}

func TestNewTakes(t *testing.T) {
	most := make([]api.File, 512)
	for i := range most {
		most[i].Path = fmt.Sprintf("f%04d", i)
	}
	for _, b := range budgets() {
		for _, l := range [][]api.File{nil, {}, example(), most, files("TARGETS:target"), files("a=h", "b=h")} {
			for _, labels := range [][]api.Label{nil, {}, labs("a:x"), labs("b:y a:x"), labs(":x a:x a/b:x a-b:x"), numbered(63), numbered(64)} {
				w := begin(t, l, labels, b)
				w.has("P20.1")
				w.look("P20.1")
			}
		}
	}
	w := begin(t, example(), nil, 1)
	result(t, "P20.3", w.c, code(api.ErrArg))
	w = begin(t, example(), labs("a:x"), -1)
	result(t, "P20.3", w.c, code(api.ErrArg))
	w = begin(t, nil, labs("a:x"), 1)
	result(t, "P20.3", w.c, missing("a:x", ""))
}

// TestLabelsRise: by package, piece by piece, then by name.
func TestLabelsRise(t *testing.T) {
	want := labs(":b a:A a:a a/b:a a/b/c:a a-b:a b:a")
	for _, labels := range [][]api.Label{want, labs("b:a a-b:a a/b/c:a a/b:a a:a a:A :b"), labs("a/b:a b:a a:a :b a-b:a a:A a/b/c:a")} {
		w := begin(t, nil, labels, 1)
		if l := w.c.Labels(); !slices.Equal(l, want) {
			t.Errorf("P20.3: Labels(): %q, want %q", l, want)
		}
		w = begin(t, nil, nil, 1)
		for _, a := range labels {
			w.add(a)
		}
		if l := w.c.Labels(); !slices.Equal(l, want) {
			t.Errorf("P20.3: Labels(): %q, want %q", l, want)
		}
		for _, a := range labels {
			w.drop(a)
		}
		if l := w.c.Labels(); len(l) > 0 {
			t.Errorf("P20.3: Labels(): %q, want none", l)
		}
	}
}

// P20.2

// grove is a snapshot of seven packages; target all of the root needs the others.
func grove() []api.File {
	return files(
		"TARGETS:target all { srcs = [r, s/*.c] deps = [//a/p:n, //a/q:n, //b/c/d:n, //b/c/e:n, //b/f:n, //g:n] } target t { srcs = [r] }", "r=1",
		"a/p/TARGETS:target n { srcs = [1] see = [public] }", "a/p/1=5",
		"a/q/TARGETS:target n { srcs = [*] see = [public] }", "a/q/2=7", "a/q/s/3=9",
		"a/z/4=300",
		"b/c/d/TARGETS:target n { srcs = [5, x/*] see = [public] }", "b/c/d/5=5", "b/c/d/x/6=6",
		"b/c/e/TARGETS:target n { see = [public] }",
		"b/c/y/7=20",
		"b/f/TARGETS:target n { srcs = [8] see = [public] }", "b/f/8=8",
		"b/z/9=100",
		"g/TARGETS:target n { srcs = [h/i/j] see = [public] }", "g/h/i/j=3", "g/z=1000",
		"k/l/10=5000")
}

// noDeltas are lists of changes that the files of grove do not take.
func noDeltas() [][]api.Change {
	f := func(p string, n int) api.File { return api.File{Path: p, Blob: n, Size: 1} }
	put := func(x api.File) api.Change { return api.Change{Path: x.Path, Has: true, New: x} }
	cut := func(x api.File) api.Change { return api.Change{Path: x.Path, Had: true, Old: x} }
	r := api.File{Path: "r", Blob: 7, Size: 1}
	good := put(f("n/1", 1))
	all := [][]api.Change{
		{{}}, {{Path: "n"}}, {{Path: "n", Had: true, Has: true, Old: f("n", 1), New: f("n", 1)}}, {{Path: "n", Has: true, New: f("m", 1)}}, {{Path: "n", Had: true, Old: f("n", 1), New: f("n", 2)}}, // no deltas
		{put(f("n/1", 1)), put(f("n/1", 1))}, {put(f("n/2", 1)), put(f("n/1", 1))}, {put(f("", 1))}, {put(f("n//", 1))}, {put(f("n/..", 1))},
		{put(f("r", 2))}, {put(r)}, {cut(f("n", 1))}, {cut(f("r", 9))}, {{Path: "r", Had: true, Has: true, Old: f("r", 9), New: r}}, {{Path: "n", Had: true, Has: true, Old: f("n", 9), New: f("n", 1)}}, // not of these files
		{put(f("a", 1))}, {put(f("a/p", 1))}, {put(f("r/x", 1))}, {put(f("a/p/1/x", 1))}, {put(f("n", -1))}, {put(f("n/TARGETS", 1))}, {put(api.File{Path: "n", Text: "x", Size: 1})}, {put(api.File{Path: "n", Size: half + 1})}, // no snapshot
	}
	for _, d := range slices.Clone(all) {
		if len(d) == 1 { // one that could be done does not save it
			all = append(all, append([]api.Change{good}, d...), append(slices.Clone(d), put(f("z/1", 1))))
		}
	}
	var many []api.Change
	for i := range 513 {
		many = append(many, put(f(fmt.Sprintf("n/%04d", i), 1)))
	}
	return append(all, many, many[:512])
}

func TestApplyRefuses(t *testing.T) {
	fault := missing("q:q", "")
	for _, labels := range []string{":all", ":t", "q:q", ""} {
		for _, asked := range []bool{false, true} {
			w := begin(t, grove(), labs(labels), 6)
			if asked {
				w.look("P20.3")
			}
			for i, d := range noDeltas() {
				if e := w.apply(d); e != api.ErrDelta || !slices.Equal(w.files, grove()) {
					t.Fatalf("P20.2: delta %d is taken: %d", i, e)
				}
				if i%5 == 0 && asked {
					w.look("P20.2")
				}
			}
			switch labels {
			case ":all":
				result(t, "P20.2", w.c, api.Fault{}, strings.Fields("a/p a/q b/c/d b/c/e b/f g")...)
			case ":t":
				result(t, "P20.2", w.c, api.Fault{})
			case "q:q":
				result(t, "P20.2", w.c, fault)
			default:
				result(t, "P20.2", w.c, code(api.ErrArg))
			}
			w.look("P20.2")
		}
	}
}

// TestApplyLeadsOn from files to files, there and back, one behind the other, asked at each or at the end alone.
func TestApplyLeadsOn(t *testing.T) {
	most := []api.File{}
	for i := range 512 {
		most = append(most, api.File{Path: fmt.Sprintf("m%03d", i), Blob: i, Size: i})
	}
	all := [][]api.File{nil, example(), grove(), with(grove(), "a/z/4=301"), without(grove(), "r"), most, with(most[:511], "a/TARGETS:target x { }"), grove()}
	for _, labels := range []string{":all", "a:x", "a:x a/p:n"} {
		for _, often := range []int{1, 2, 3, 7} {
			w := begin(t, all[2], labs(labels), 4)
			w.look("P20.3")
			for i := range 5 * len(all) {
				w.turn(all[(i*i+i)%len(all)])
				if i%often == 0 {
					w.look("P20.3")
				}
			}
			w.look("P20.3")
		}
	}
	w := begin(t, grove(), labs(":all"), 6)
	for range 2 { // no change at all may be
		if e := w.apply(nil); e != api.OK {
			t.Errorf("P20.2: Apply(none): %d", e)
		}
		w.apply([]api.Change{})
		w.look("P20.2")
	}
}

func TestAddRefuses(t *testing.T) {
	full := numbered(64)
	for _, labels := range [][]api.Label{nil, labs(":all"), labs("q:q"), full[:63], full} {
		for _, asked := range []bool{false, true} {
			w := begin(t, grove(), labels, 6)
			if asked {
				w.look("P20.3")
			}
			for _, a := range noLabels() {
				if e := w.add(a); e != api.ErrLabel {
					t.Fatalf("P20.2: Add(%q) to %d: %d", a, len(labels), e)
				}
			}
			for _, a := range labels {
				if e := w.add(a); e != api.ErrThere {
					t.Fatalf("P20.2: Add(%q) to %d: %d", a, len(labels), e)
				}
			}
			want := api.OK
			if len(labels) == 64 {
				want = api.ErrArg
			}
			w.look("P20.2")
			if e := w.add(lab("g:n")); e != want {
				t.Fatalf("P20.2: Add to %d: %d, want %d", len(labels), e, want)
			}
			w.look("P20.2")
		}
	}
}

// TestAddAtTheLimit: a label that is dropped makes room for one more.
func TestAddAtTheLimit(t *testing.T) {
	w := begin(t, nil, nil, 1)
	all := numbered(200)
	for i, a := range all {
		want := api.OK
		if i >= 64 {
			want = api.ErrArg
		}
		if e := w.add(a); e != want {
			t.Fatalf("P20.2: Add of number %d: %d, want %d", i, e, want)
		}
	}
	for i := range 100 {
		if e := w.drop(w.labels[i*7%64]); e != api.OK {
			t.Fatalf("P20.2: Drop: %d", e)
		}
		for _, a := range all[64:] {
			if !slices.Contains(w.labels, a) {
				if e := w.add(a); e != api.OK {
					t.Fatalf("P20.2: Add behind Drop: %d", e)
				}
				break
			}
		}
		if e := w.add(lab("z:z")); e != api.ErrArg {
			t.Fatalf("P20.2: Add to 64: %d", e)
		}
	}
	w.look("P20.3")
}

func TestDropRefuses(t *testing.T) {
	for _, labels := range [][]api.Label{nil, labs(":all"), labs("a/p:n g:n"), numbered(64)} {
		for _, asked := range []bool{false, true} {
			w := begin(t, grove(), labels, 6)
			if asked {
				w.look("P20.3")
			}
			for _, a := range append(noLabels(), labs("q:q a/p:m a:n a/p/n:n :alL :al")...) {
				if e := w.drop(a); e != api.ErrNone {
					t.Fatalf("P20.2: Drop(%q): %d", a, e)
				}
			}
			w.look("P20.2")
			for _, a := range labels {
				if e := w.drop(a); e != api.OK {
					t.Fatalf("P20.2: Drop(%q): %d", a, e)
				}
				if e := w.drop(a); e != api.ErrNone {
					t.Fatalf("P20.2: Drop(%q) again: %d", a, e)
				}
			}
			result(t, "P20.2", w.c, code(api.ErrArg))
			for _, a := range labels {
				w.add(a)
			}
			w.look("P20.2")
		}
	}
}

func TestBudget(t *testing.T) {
	want := map[int]string{6: "a/p a/q b/c/d b/c/e b/f g", 5: "a/p a/q b/c b/f g", 4: "a/p a/q b g", 3: "a b g"}
	w := begin(t, grove(), labs(":all"), 6)
	for range 2 {
		for _, b := range append(budgets(), 6, 5, 4, 3, 4, 5, 6, 7) {
			w.spend(b)
			w.look("P20.2")
			if b >= 3 {
				result(t, "P20.2", w.c, api.Fault{}, strings.Fields(want[min(b, 6)])...)
			} else if b >= 1 {
				result(t, "P20.2", w.c, api.Fault{}, "")
			} else {
				result(t, "P20.2", w.c, code(api.ErrArg))
			}
		}
	}
	w = begin(t, nil, nil, 1)
	for _, b := range budgets() {
		w.spend(b)
		w.look("P20.2")
		w.add(lab("q:q"))
		w.look("P20.2")
		w.drop(lab("q:q"))
	}
}

// P20.3: what was found before is not believed where it does not hold any more.

// way goes from files to files and back, and asks at each.
func way(t *testing.T, labels string, b int, all ...[]api.File) {
	t.Helper()
	w := begin(t, all[0], labs(labels), b)
	w.look("P20.3")
	for _, l := range all[1:] {
		w.turn(l)
		w.look("P20.3")
	}
	for _, l := range slices.Backward(all[:len(all)-1]) {
		w.turn(l)
		w.look("P20.3")
	}
}

// TestGlobsThatMatchNothing: what comes into a directory that a glob looks into is a source.
func TestGlobsThatMatchNothing(t *testing.T) {
	w := begin(t, grove(), labs(":all"), 9)
	six := strings.Fields("a/p a/q b/c/d b/c/e b/f g")
	result(t, "P20.3", w.c, api.Fault{}, six...)
	w.turn(with(w.files, "s/x.h", "s/t/x.c", "t/x.c"))
	result(t, "P20.3", w.c, api.Fault{}, six...)
	w.turn(with(w.files, "s/x.c"))
	result(t, "P20.3", w.c, api.Fault{}, append(slices.Clone(six), "s")...)
	w.turn(with(w.files, "s/x.c=99"))
	result(t, "P20.3", w.c, api.Fault{}, append(slices.Clone(six), "s")...)
	w.turn(with(without(w.files, "s/x.c"), "s/y.c"))
	result(t, "P20.3", w.c, api.Fault{}, append(slices.Clone(six), "s")...)
	w.turn(with(w.files, "s/TARGETS:target n { }"))
	result(t, "P20.3", w.c, api.Fault{}, append(slices.Clone(six), "s")...)
	w.turn(without(w.files, "s/y.c"))
	result(t, "P20.3", w.c, api.Fault{}, six...)
	w.look("P20.3")
	l := files("TARGETS:target t { srcs = [*, q/*.c, q/r/x*] deps = [//p:n] }", "p/TARGETS:target n { srcs = [*, d/e/*] see = [//] }")
	for _, more := range []string{"x", "q/x", "q/.c", "q/x.c", "q/r/x", "q/r/y", "q/r/x.c", "q/r/s/x", "p/x", "p/d/x", "p/d/e/x", "p/d/e/f/x", "p/d/e/TARGETS:", "q/TARGETS:target", "z/x.c", "p.d/x"} {
		way(t, ":t", 5, l, with(l, more), with(l, more, "q/a.c"))
		way(t, ":t", 1, l, with(l, more), with(l, more, "q/a.c"))
		way(t, "p:n", 5, l, with(l, more), with(l, more, "q/a.c"))
	}
}

// TestFaultsComeAndGo: each kind of fault, by a change of one file.
func TestFaultsComeAndGo(t *testing.T) {
	l := files("a/TARGETS:target a { srcs = [x.c, s/*.c] deps = [//b:b] }", "b/TARGETS:target b { srcs = [y.c] see = [//a] }",
		"a/x.c", "a/s/1.c", "b/y.c", "c/TARGETS:target c { }", "e/z=h")
	a, b := lab("a:a"), lab("b:b")
	for _, c := range []struct {
		l     []api.File
		fault api.Fault
	}{
		{with(l, "b/TARGETS:target"), api.Fault{Code: api.ErrParse, Path: "b/TARGETS", At: 6}},
		{with(l, "a/TARGETS:;"), api.Fault{Code: api.ErrParse, Path: "a/TARGETS"}},
		{with(l, "b/TARGETS:"+strings.Repeat(" ", 4097)), api.Fault{Code: api.ErrParse, Path: "b/TARGETS", At: 4096}},
		{without(l, "a/TARGETS"), missing("a:a", "")},
		{without(l, "b/TARGETS"), missing("b:b", "")},
		{with(l, "b/TARGETS:target c { }"), missing("b:b", "")},
		{without(l, "b/y.c"), missing("b:b", "b/y.c")},
		{without(l, "a/x.c", "b/y.c"), missing("a:a", "a/x.c")},
		{with(without(l, "b/y.c"), "b/y.c/x"), missing("b:b", "b/y.c")},
		{with(without(l, "a/TARGETS"), "a/TARGETS/x"), missing("a:a", "")},
		{with(l, "b/TARGETS:target b { srcs = [y.c] deps = [//a:a] }"), api.Fault{Code: api.ErrCycle, Circle: []api.Label{a, b}}},
		{with(l, "b/TARGETS:target b { deps = [:c] } target c { deps = [:d] } target d { deps = [:c] }"), api.Fault{Code: api.ErrCycle, Circle: labs("b:c b:d")}},
		{with(l, "a/TARGETS:target a { deps = [:a] }"), api.Fault{Code: api.ErrCycle, Circle: []api.Label{a}}},
		{with(l, "b/TARGETS:target b { srcs = [y.c] }"), api.Fault{Code: api.ErrSee, Label: a, Other: b}},
		{with(l, "b/TARGETS:target b { srcs = [y.c] see = [//a/b/..., //c] }"), api.Fault{Code: api.ErrSee, Label: a, Other: b}},
		{with(l, "a/y=h", "b/y=h"), code(api.ErrOver)},
		{with(l, "y=h", "z=h"), code(api.ErrOver)},
	} {
		w := begin(t, l, labs("a:a"), 2)
		for range 2 {
			result(t, "P20.3", w.c, api.Fault{}, "a", "b")
			w.turn(c.l)
			result(t, "P20.3", w.c, c.fault)
			result(t, "P20.3", w.c, c.fault)
			w.add(lab("c:c"))
			result(t, "P20.3", w.c, c.fault)
			w.drop(lab("c:c"))
			w.turn(l)
		}
		w.turn(c.l)
		w.drop(a)
		w.add(lab("c:c"))
		if c.fault.Code != api.ErrOver {
			result(t, "P20.3", w.c, api.Fault{}, "c") // what is not reached plays no part
		}
		w.look("P20.3")
		w.turn(l)
		w.look("P20.3")
	}
}

// TestUnseenMeanwhile: what a label may see is changed while the label is not there.
func TestUnseenMeanwhile(t *testing.T) {
	l := files("a/TARGETS:target a { deps = [//b:b] }", "b/TARGETS:target b { see = [//a] }")
	for _, c := range []struct {
		text  string
		fault api.Fault
		want  []string
	}{
		{"target b { }", api.Fault{Code: api.ErrSee, Label: lab("a:a"), Other: lab("b:b")}, nil},
		{"target b { deps = [//a:a] }", api.Fault{Code: api.ErrCycle, Circle: labs("a:a b:b")}, nil},
		{"target b { see = [//a] srcs = [none/*] }", api.Fault{}, []string{"a", "b"}},
		{"target c { }", missing("b:b", ""), nil},
		{"target", api.Fault{Code: api.ErrParse, Path: "b/TARGETS", At: 6}, nil},
	} {
		w := begin(t, l, labs("a:a b:b"), 2)
		result(t, "P20.3", w.c, api.Fault{}, "a", "b")
		w.drop(lab("a:a"))
		w.look("P20.3")
		w.turn(with(l, "b/TARGETS:"+c.text))
		w.look("P20.3") // b alone
		w.add(lab("a:a"))
		result(t, "P20.3", w.c, c.fault, c.want...)
		w.drop(lab("b:b"))
		result(t, "P20.3", w.c, c.fault, c.want...)
		w.turn(l)
		result(t, "P20.3", w.c, api.Fault{}, "a", "b")
	}
}

// TestTextsThatSayTheSame: a manifest that changes in blanks and comments alone.
func TestTextsThatSayTheSame(t *testing.T) {
	l := grove()
	for _, p := range []string{"TARGETS", "a/q/TARGETS", "g/TARGETS"} {
		i := slices.IndexFunc(l, func(f api.File) bool { return f.Path == p })
		text := l[i].Text
		way(t, ":all", 6, l, with(l, p+":"+text+" "), with(l, p+":# 1\n"+text), with(l, p+":"+text+"# "+strings.Repeat("x", 4096)), l)
		way(t, ":all", 2, l, with(l, p+":"+text+" "), with(l, p+":# 1\n"+text), with(l, p+":"+text+"}"), l)
	}
}

// TestSizes: what files hold, and files that nothing asks for, show in merges and in what is too great.
func TestSizes(t *testing.T) {
	w := begin(t, grove(), labs(":all"), 4)
	for range 2 {
		result(t, "P20.3", w.c, api.Fault{}, strings.Fields("a/p a/q b g")...)
		w.turn(with(w.files, "a/z/4=30"))
		result(t, "P20.3", w.c, api.Fault{}, strings.Fields("a b/c b/f g")...)
		w.turn(with(w.files, "a/z/4=300", "b/z/9=300"))
		result(t, "P20.3", w.c, api.Fault{}, strings.Fields("a b/c b/f g")...)
		w.turn(with(w.files, "b/z/9=h", "b/z/8=h", "b/z/7=h", "a/z/4=h"))
		result(t, "P20.3", w.c, api.Fault{}, strings.Fields("a b/c b/f g")...)
		w.turn(with(w.files, "a/z/5=h"))
		result(t, "P20.3", w.c, code(api.ErrOver))
		w.spend(5)
		result(t, "P20.3", w.c, api.Fault{}, strings.Fields("a/p a/q b/c b/f g")...)
		w.turn(with(w.files, "x=h", "y=h"))
		result(t, "P20.3", w.c, code(api.ErrOver))
		w.spend(4)
		w.turn(grove())
	}
}

// TestSizesAtTheEdge: just MaxTotal, and one more, by what the cones show and by a merge.
func TestSizesAtTheEdge(t *testing.T) {
	l := files("a/TARGETS:target a { deps = [//b:b] }", "b/TARGETS:target b { see = [public] }", "a/1=h", "c/x=0", "b/2=0")
	text := len("target a { deps = [//b:b] }") + len("target b { see = [public] }")
	at := func(p string, size int) []api.File { return with(l, fmt.Sprintf("%s=%d", p, size)) }
	left := total - half - text
	for _, b := range []int{2, 3} {
		w := begin(t, l, labs("a:a"), b)
		result(t, "P20.3", w.c, api.Fault{}, "a", "b")
		for _, p := range []string{"b/2", "b/d/e", "a/0", "r"} {
			for range 2 {
				w.turn(at(p, left-1))
				result(t, "P20.3", w.c, api.Fault{}, "a", "b")
				w.turn(at(p, left))
				result(t, "P20.3", w.c, api.Fault{}, "a", "b")
				result(t, "P20.3", w.c, api.Fault{}, "a", "b")
				w.turn(at(p, left+1))
				result(t, "P20.3", w.c, code(api.ErrOver))
				w.turn(at("c/x", left+1))
				result(t, "P20.3", w.c, api.Fault{}, "a", "b")
				w.turn(at(p, half))
				result(t, "P20.3", w.c, code(api.ErrOver))
				w.turn(l)
				result(t, "P20.3", w.c, api.Fault{}, "a", "b")
			}
		}
		w.spend(1)
		result(t, "P20.3", w.c, api.Fault{}, "")
		w.turn(at("c/x", left))
		result(t, "P20.3", w.c, api.Fault{}, "")
		w.turn(at("c/x", left+1))
		result(t, "P20.3", w.c, code(api.ErrOver))
		w.spend(2)
		result(t, "P20.3", w.c, api.Fault{}, "a", "b")
		w.look("P20.3")
	}
}

// TestLabelsThatAreKnown: what another label has needed is asked for by itself, and dropped again.
func TestLabelsThatAreKnown(t *testing.T) {
	w := begin(t, grove(), labs(":all"), 6)
	w.look("P20.3")
	all := labs(":t a/p:n a/q:n b/c/d:n b/c/e:n b/f:n g:n")
	for _, a := range all {
		w.add(a)
		w.look("P20.3")
	}
	w.drop(lab(":all"))
	result(t, "P20.3", w.c, api.Fault{}, strings.Fields("a/p a/q b/c/d b/c/e b/f g")...)
	for i, a := range all {
		w.drop(a)
		w.look("P20.3")
		w.turn(with(w.files, fmt.Sprintf("a/q/n%d", i)))
		w.look("P20.3")
	}
	result(t, "P20.3", w.c, code(api.ErrArg))
	w.add(lab("a/q:n"))
	result(t, "P20.3", w.c, api.Fault{}, "a/q")
	w.add(lab("q:q"))
	result(t, "P20.3", w.c, missing("q:q", ""))
	w.drop(lab("q:q"))
	result(t, "P20.3", w.c, api.Fault{}, "a/q")
}

// smallWorlds are all snapshots of some parts, each of which is as one of its words say; a word without a path is no file.
func smallWorlds(parts [][]string) [][]api.File {
	all := [][]string{nil}
	for _, part := range parts {
		var more [][]string
		for _, l := range all {
			for _, word := range part {
				more = append(more, append(slices.Clone(l), strings.Fields(strings.ReplaceAll(word, " ", "\x00"))...))
			}
		}
		all = more
	}
	var out [][]api.File
	for _, words := range all {
		for i, word := range words {
			words[i] = strings.ReplaceAll(word, "\x00", " ")
		}
		out = append(out, files(words...))
	}
	return out
}

func smallParts() [][]string {
	return [][]string{
		{"", "a/TARGETS:target x { srcs = [f, s/*] }", "a/TARGETS:target x { deps = [//b:y] see = [public] }", "a/TARGETS:target x { srcs = [*] deps = [:z] } target z { srcs = [s/1] deps = [//:r] }", "a/TARGETS:target"},
		{"b/TARGETS:target y { see = [//a] }", "b/TARGETS:target y { srcs = [g] see = [public] deps = [//:r] }", "b/TARGETS:target y { deps = [//a:x] see = [//...] }", "b/TARGETS:target y { srcs = [h/*] }", ""},
		{"TARGETS:target r { srcs = [s/*, q*] see = [public] }", ""},
		{"a/f=5", ""},
		{"a/s/1=5", ""},
		{"b/g=5", ""},
		{"s/1=5", ""},
	}
}

// near are the places of the worlds that part from that at a place in one part.
func near(at int, parts [][]string) []int {
	var l []int
	step := 1
	for _, part := range slices.Backward(parts) {
		own := at / step % len(part)
		for other := range part {
			if other != own {
				l = append(l, at+(other-own)*step)
			}
		}
		step *= len(part)
	}
	return l
}

// TestSmallWorlds: from each small world that has cones to each that parts from it in one part or two; also with a label less meanwhile.
func TestSmallWorlds(t *testing.T) {
	parts := smallParts()
	all := smallWorlds(parts)
	begun := 0
	for i, l := range all {
		for _, labels := range []string{"a:x", "a:x b:y", ":r b:y"} {
			if _, f := compile.Run(l, labs(labels), 3); f.Code != api.OK {
				continue
			}
			begun++
			for _, j := range near(i, parts) {
				w := begin(t, l, labs(labels), 3)
				w.look("P20.3")
				w.turn(all[j])
				w.look("P20.3")
				far := near(j, parts)
				w.turn(all[far[(i+j)%len(far)]])
				w.look("P20.3")
				w.turn(l)
				w.look("P20.3")
				first := w.labels[0]
				w.drop(first)
				w.turn(all[j])
				w.look("P20.3")
				w.add(first)
				w.look("P20.3")
			}
		}
	}
	if begun < 100 {
		t.Errorf("only %d have cones: the worlds say too little", begun)
	}
}

// TestGreatest: as many files, labels and targets as there may be, asked again and again.
func TestGreatest(t *testing.T) {
	var list []string
	var labels []api.Label
	for p := range 128 {
		dir := fmt.Sprintf("d%d/p%03d", p/16, p)
		text := ""
		for n := range 40 {
			text += fmt.Sprintf("target t%02d{deps=[//d%d/p%03d:t%02d]srcs=[f,*]see=[public]}\n", n, (p+1)%128/16, (p+1)%128, n+1)
		}
		list = append(list, dir+"/TARGETS:"+text+"target t40{}", dir+"/f", dir+"/g", dir+"/h/i")
		if p%2 == 0 {
			labels = append(labels, api.Label{Pkg: dir, Name: fmt.Sprintf("t%02d", p%40)})
		}
	}
	l := files(list...)
	w := begin(t, l, labels, 512)
	w.look("P20.3")
	for i := range 4 {
		p := fmt.Sprintf("d0/p%03d/", i)
		w.turn(with(l, p+"g=77", p+"f=5"))
		w.look("P20.3")
		w.turn(without(w.files, p+"g"))
		w.look("P20.3")
		w.turn(without(w.files, p+"f"))
		w.look("P20.3")
		w.turn(l)
	}
	w.turn(nil)
	w.look("P20.3")
	w.turn(l)
	w.look("P20.3")
	var moved []api.File
	for _, f := range l {
		f.Path = strings.Replace(f.Path, "d", "e", 1)
		moved = append(moved, f)
	}
	w.turn(moved) // 1,024 changes
	w.look("P20.3")
}
