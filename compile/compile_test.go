package compile_test

import (
	"fmt"
	"maps"
	"math"
	"math/big"
	"math/rand"
	"runtime/debug"
	"slices"
	"strconv"
	"strings"
	"testing"

	"copse/api"
	"copse/build"
	"copse/closure"
	"copse/compile"
	"copse/cone"
	"copse/merge"
	"copse/snap"
)

const (
	half  = 1 << 62 // the greatest size of a file: two of them are one more than MaxTotal
	total = math.MaxInt64
)

// lab is the label of a text "a/b:n"; labs those of a text with blanks between.
func lab(text string) api.Label {
	pkg, name, _ := strings.Cut(text, ":")
	return api.Label{Pkg: pkg, Name: name}
}

func labs(text string) []api.Label {
	var l []api.Label
	for _, w := range strings.Fields(text) {
		l = append(l, lab(w))
	}
	return l
}

// files are a snapshot: a manifest's text stands behind its path and a colon, another file's size behind its path and "=": h is half; without one it is 10.
func files(words ...string) []api.File {
	var l []api.File
	for i, w := range words {
		if p, text, isText := strings.Cut(w, ":"); isText {
			l = append(l, api.File{Path: p, Text: text, Size: len(text)})
			continue
		}
		p, size, isSized := strings.Cut(w, "=")
		f := api.File{Path: p, Blob: 100 + i, Size: 10}
		if isSized {
			f.Size = sizeOf(size)
		}
		l = append(l, f)
	}
	slices.SortFunc(l, byFiles)
	return l
}

func sizeOf(s string) int {
	less, isHalf := strings.CutPrefix(s, "h")
	n, _ := strconv.Atoi(less)
	if isHalf {
		n += half
	}
	return n
}

// without leaves files out, with puts some in or in their places.
func without(l []api.File, ps ...string) []api.File {
	return slices.DeleteFunc(slices.Clone(l), func(f api.File) bool { return slices.Contains(ps, f.Path) })
}

func with(l []api.File, words ...string) []api.File {
	more := files(words...)
	for _, f := range more {
		l = without(l, f.Path)
	}
	l = append(l, more...)
	slices.SortFunc(l, byFiles)
	return l
}

func words(s string) []string { return strings.Fields(s) }

func sameNodes(a, b []api.Node) bool {
	return slices.EqualFunc(a, b, func(x, y api.Node) bool {
		return x.Label == y.Label && slices.Equal(x.Srcs, y.Srcs) && slices.Equal(x.Deps, y.Deps)
	})
}

func sameFault(a, b api.Fault) bool {
	return a.Code == b.Code && a.Label == b.Label && a.Other == b.Other && a.Path == b.Path && a.At == b.At && slices.Equal(a.Circle, b.Circle)
}

// shown writes what a test is about, cut short where it is very long.
func shown(l []api.File, labels []api.Label, b int) string {
	s := ""
	for _, f := range l {
		s += fmt.Sprintf("%q=%d %q\n", f.Path, f.Size, f.Text)
	}
	if len(s) > 4000 {
		s = s[:4000] + " ..."
	}
	return fmt.Sprintf("Run of\n%slabels %q, budget %d", s, labels[:min(len(labels), 70)], b)
}

func check(t *testing.T, promise string, l []api.File, labels []api.Label, b int, want []string, fault api.Fault) {
	t.Helper()
	if k, f := compile.Run(l, labels, b); !slices.Equal(k, want) || !sameFault(f, fault) {
		t.Fatalf("%s: %s:\n%q, %+v, want\n%q, %+v", promise, shown(l, labels, b), k, f, want, fault)
	}
}

func gives(t *testing.T, l []api.File, labels string, b int, want ...string) {
	t.Helper()
	check(t, "P18.2", l, labs(labels), b, want, api.Fault{})
}

func fails(t *testing.T, promise string, l []api.File, labels []api.Label, b int, fault api.Fault) {
	t.Helper()
	check(t, promise, l, labels, b, nil, fault)
}

func over(t *testing.T, l []api.File, labels string, b int) {
	t.Helper()
	fails(t, "P18.2", l, labs(labels), b, api.Fault{Code: api.ErrOver})
}

// The examples of the chapter.

func example() []api.File {
	return files(
		"a/TARGETS:target a { srcs = [x.c, s/*.c] deps = [//b:b] }",
		"b/TARGETS:target b { srcs = [y.c] see = [//a] }",
		"a/x.c", "a/s/1.c", "a/s/2.c", "a/s/TARGETS:", "b/y.c",
		"c/d/TARGETS:target d { srcs = [z.c] }", "c/d/z.c")
}

func TestExample1(t *testing.T) {
	l := example()
	ps, f := closure.Of(l, labs("a:a"))
	if !slices.Equal(ps, words("a/TARGETS a/s/1.c a/s/2.c a/x.c b/TARGETS b/y.c")) || f.Code != api.OK {
		t.Fatalf("the closure is %q, %+v", ps, f)
	}
	gives(t, l, "a:a", 5, "a", "b")
	gives(t, l, "a:a", 2, "a", "b")
	gives(t, l, "a:a", 1, "")
}

func TestExample2(t *testing.T) {
	gives(t, example(), "c/d:d", 1, "c/d")
	gives(t, example(), "c/d:d b:b", 2, "b", "c/d")
}

func TestExample3(t *testing.T) {
	fails(t, "P18.1", example(), labs("a:a"), 0, api.Fault{Code: api.ErrArg})
	fails(t, "P18.1", example(), nil, 1, api.Fault{Code: api.ErrArg})
	fails(t, "P18.1", example(), labs("q:q"), 1, api.Fault{Code: api.ErrMissing, Label: lab("q:q")})
}

func TestExample4(t *testing.T) {
	l := with(example(), "a/1=h", "a/2=h", "a/3=h")
	over(t, l, "a:a", 1)
	over(t, l, "a:a", 5)
	l = with(example(), "e/1=h", "e/2=h", "e/3=h")
	gives(t, l, "a:a", 5, "a", "b")
	over(t, l, "a:a", 1)
}

func TestExample5(t *testing.T) {
	l := with(example(), "TARGETS:target t { srcs = [r, *.h] }", "r", "x.h")
	gives(t, l, ":t", 1)
	gives(t, l, ":t", 9)
}

// P18.1

// noSnapshots are lists that snap.Valid refuses, by its Code.
func noSnapshots() map[api.Errno][][]api.File {
	many := make([]api.File, api.MaxFiles+1)
	for i := range many {
		many[i].Path = fmt.Sprintf("f%04d", i)
	}
	return map[api.Errno][][]api.File{
		api.ErrPath: {
			{{Path: ""}}, {{Path: "/"}}, {{Path: "a//b"}}, {{Path: "a/"}}, {{Path: "a/../b"}}, {{Path: "a\xff"}},
			{{Path: strings.Repeat("a/", api.MaxDepth) + "a"}}, {{Path: "b"}, {Path: "a"}, {Path: "c/"}}, {{Path: "a", Size: -1}, {Path: "."}},
			append(slices.Clone(example()), api.File{Path: "..."}), slices.Concat(many, []api.File{{}}),
		},
		api.ErrSnap: {
			{{Path: "b"}, {Path: "a"}}, {{Path: "a"}, {Path: "a"}}, {{Path: "a"}, {Path: "a/b"}}, {{Path: "a", Text: "x", Size: 1}},
			{{Path: "a", Blob: -1}}, {{Path: "a", Blob: api.MaxBlob + 1}}, {{Path: "a", Size: -1}}, {{Path: "a", Size: api.MaxSize + 1}}, {{Path: "a", Size: math.MinInt}},
			{{Path: "TARGETS", Text: "target a{}", Size: 9}}, {{Path: "TARGETS", Text: "bad", Size: 3, Blob: 1}},
			append(slices.Clone(example()), api.File{Path: "a/x.c"}), many,
		},
	}
}

// arguments are those beside the files.
type arguments struct {
	labels []api.Label
	budget int
}

// noArguments are some of which the labels or the budget may not be, whatever the files are.
func noArguments() []arguments {
	good := labs("a:a")
	var l []arguments
	for _, b := range []int{0, -1, -2, math.MinInt32, math.MinInt + 1, math.MinInt} {
		for _, labels := range [][]api.Label{good, nil, labs("q:q"), labs("c/d:d b:b"), {{}}, slices.Repeat(good, 65)} {
			l = append(l, arguments{labels, b})
		}
	}
	deep := strings.TrimSuffix(strings.Repeat("a/", api.MaxDepth), "/")
	for _, b := range []int{1, 2, 5, math.MaxInt} {
		l = append(l, arguments{nil, b}, arguments{[]api.Label{}, b}, arguments{slices.Repeat(good, api.MaxTargets+1), b},
			arguments{slices.Repeat(labs("q:q a:a"), 1000), b}, arguments{make([]api.Label, api.MaxTargets+1), b})
		for _, a := range []api.Label{
			{}, {Pkg: "a"}, {Pkg: "/a", Name: "a"}, {Pkg: "a/", Name: "a"}, {Pkg: "//a", Name: "a"}, {Pkg: "a/..", Name: "a"}, {Pkg: "a\x00", Name: "a"},
			{Pkg: "a", Name: "."}, {Pkg: "a", Name: "..."}, {Pkg: "a", Name: "a/b"}, {Pkg: "a", Name: "\xff"}, {Pkg: "a", Name: "//a:a"},
			{Pkg: "a", Name: strings.Repeat("n", api.MaxComp+1)}, {Pkg: deep + "/a", Name: "a"},
		} {
			l = append(l, arguments{[]api.Label{a}, b}, arguments{append(labs("a:a b:b"), a), b}, arguments{append([]api.Label{a}, labs("q:q")...), b},
				arguments{slices.Concat(slices.Repeat(good, 63), []api.Label{a}), b})
		}
	}
	return l
}

// noBuild is a snapshot of which a:a has no build, and why.
type noBuild struct {
	l     []api.File
	fault api.Fault
}

func faulty() []noBuild {
	l := example()
	a, b := lab("a:a"), lab("b:b")
	missing := func(a api.Label, p string) api.Fault { return api.Fault{Code: api.ErrMissing, Label: a, Path: p} }
	return []noBuild{
		{with(l, "b/TARGETS:target"), api.Fault{Code: api.ErrParse, Path: "b/TARGETS", At: 6}},
		{with(l, "a/TARGETS:;", "b/TARGETS:x"), api.Fault{Code: api.ErrParse, Path: "a/TARGETS"}},
		{with(without(l, "a/x.c"), "b/TARGETS:target b { srcs = [TARGETS] }"), api.Fault{Code: api.ErrParse, Path: "b/TARGETS", At: 19}},
		{without(l, "a/TARGETS"), missing(a, "")},
		{without(l, "b/TARGETS"), missing(b, "")},
		{with(l, "b/TARGETS:target c { }"), missing(b, "")},
		{without(l, "b/y.c"), missing(b, "b/y.c")},
		{without(l, "b/y.c", "a/x.c"), missing(a, "a/x.c")},
		{with(l, "b/TARGETS:target b { srcs = [z, y.c, q/z] deps = [//a:a] }"), missing(b, "b/q/z")},
		{with(l, "b/TARGETS:target b { srcs = [y.c] deps = [//a:a] }"), api.Fault{Code: api.ErrCycle, Circle: []api.Label{a, b}}},
		{with(l, "b/TARGETS:target b { deps = [:c] } target c { deps = [:d] } target d { deps = [:c] }"), api.Fault{Code: api.ErrCycle, Circle: labs("b:c b:d")}},
		{with(l, "a/TARGETS:target a { deps = [:a] }"), api.Fault{Code: api.ErrCycle, Circle: []api.Label{a}}},
		{with(l, "b/TARGETS:target b { srcs = [y.c] }"), api.Fault{Code: api.ErrSee, Label: a, Other: b}},
		{with(l, "b/TARGETS:target b { srcs = [y.c] see = [//a/b/..., //c] }"), api.Fault{Code: api.ErrSee, Label: a, Other: b}},
	}
}

// great puts sizes above MaxTotal into each directory that could be shown.
func great(l []api.File) []api.File {
	var more []string
	for _, d := range words("a/ b/ a/s/ c/ e/") {
		more = append(more, d+"z1=h", d+"z2=h")
	}
	return with(l, append(more, "z1=h", "z2=h")...)
}

func TestNoSnapshot(t *testing.T) {
	var all []arguments
	for _, b := range []int{1, 5, math.MaxInt} {
		all = append(all, arguments{labs("a:a"), b}, arguments{labs("q:q"), b}, arguments{labs("f0000:a"), b})
	}
	for _, c := range noArguments() {
		if len(c.labels) < 3 || c.budget < 1 {
			all = append(all, c)
		}
	}
	for code, lists := range noSnapshots() {
		for _, l := range lists {
			for _, c := range all {
				fails(t, "P18.1", l, c.labels, c.budget, api.Fault{Code: code})
			}
		}
	}
	// Also where there would be a fault of the build, and sizes that are too great.
	for _, c := range faulty() {
		l := great(c.l)
		fails(t, "P18.1", append(l, l[0]), labs("a:a"), 1, api.Fault{Code: api.ErrSnap})
		fails(t, "P18.1", append(l, l[0]), labs("a:a"), 0, api.Fault{Code: api.ErrSnap})
		fails(t, "P18.1", append(l, api.File{}), labs("a:a"), 1, api.Fault{Code: api.ErrPath})
		fails(t, "P18.1", append(l, l[0], api.File{}), nil, 1, api.Fault{Code: api.ErrPath})
	}
	// As many files as there may be are no fault.
	l := noSnapshots()[api.ErrSnap]
	most := slices.Clone(l[len(l)-1][1:])
	most[0] = files("TARGETS:target a { srcs = [f0007] }")[0]
	slices.SortFunc(most, byFiles)
	gives(t, most, ":a", 1)
}

func TestArguments(t *testing.T) {
	lists := [][]api.File{nil, example(), great(example())}
	for _, c := range faulty() {
		lists = append(lists, c.l, great(c.l))
	}
	for _, c := range noArguments() {
		for _, l := range lists {
			fails(t, "P18.1", l, c.labels, c.budget, api.Fault{Code: api.ErrArg})
		}
	}
}

// TestManyLabels: MaxTargets may be, one more not, be they one or many.
func TestManyLabels(t *testing.T) {
	var text string
	var labels []api.Label
	for n := range api.MaxTargets {
		text += fmt.Sprintf("target t%02d{srcs=[d%02d/f]}\n", n, n)
		labels = append(labels, api.Label{Pkg: "p", Name: fmt.Sprintf("t%02d", n)})
	}
	list := []string{"p/TARGETS:" + text, "q/TARGETS:target n { srcs = [f] }", "q/f"}
	for n := range api.MaxTargets {
		list = append(list, fmt.Sprintf("p/d%02d/f", n))
	}
	l := files(list...)
	check(t, "P18.2", l, labels, 1, []string{"p"}, api.Fault{})
	check(t, "P18.2", l, append(labels[:63:63], lab("q:n")), 2, []string{"p", "q"}, api.Fault{})
	fails(t, "P18.1", l, append(labels[:64:64], lab("q:n")), 2, api.Fault{Code: api.ErrArg})
	fails(t, "P18.1", l, append(labels[:64:64], labels[0]), 2, api.Fault{Code: api.ErrArg})
	check(t, "P18.3", l, slices.Repeat(labs("q:n"), api.MaxTargets), 1, []string{"q"}, api.Fault{})
	fails(t, "P18.1", l, slices.Repeat(labs("q:n"), api.MaxTargets+1), 1, api.Fault{Code: api.ErrArg})
}

// TestBuildFaults: every part of them, as the build tells it, ahead of sizes that are too great.
func TestBuildFaults(t *testing.T) {
	for _, c := range faulty() {
		for _, l := range [][]api.File{c.l, great(c.l)} {
			for _, labels := range []string{"a:a", "a:a b:b a:a", "b:b a:a"} {
				for _, b := range []int{1, 2, 5, math.MaxInt} {
					fails(t, "P18.1", l, labs(labels), b, c.fault)
				}
			}
			if _, f := build.Of(l, labs("a:a")); !sameFault(f, c.fault) {
				t.Fatalf("P18.1: the build's fault is %+v, want %+v", f, c.fault)
			}
			gives(t, c.l, "c/d:d", 1, "c/d") // what is not reached plays no part
		}
	}
	fails(t, "P18.1", nil, labs("a:a"), 1, api.Fault{Code: api.ErrMissing, Label: lab("a:a")})
	fails(t, "P18.1", nil, labs("b:b :a a:a"), 1, api.Fault{Code: api.ErrMissing, Label: lab(":a")})
	over(t, great(example()), "a:a", 5) // without one the sizes are told
}

// P18.2: the cones.

// grove is a snapshot of seven packages; target all of the root needs the others.
func grove() []api.File {
	return files(
		"TARGETS:target all { srcs = [r] deps = [//a/p:n, //a/q:n, //b/c/d:n, //b/c/e:n, //b/f:n, //g:n] } target t { srcs = [r] }", "r=1",
		"a/p/TARGETS:target n { srcs = [1] see = [public] }", "a/p/1=5",
		"a/q/TARGETS:target n { srcs = [*] see = [public] }", "a/q/2=7", "a/q/s/3=9",
		"a/z/4=300",
		"b/c/d/TARGETS:target n { srcs = [5, x/*] see = [public] }", "b/c/d/5=5", "b/c/d/x/6=6",
		"b/c/e/TARGETS:target n { see = [public] }",
		"b/c/y/7=20",
		"b/f/TARGETS:target n { srcs = [8] see = [public] }", "b/f/8=8",
		"b/z/9=100",
		"g/TARGETS:target n { srcs = [h/i/j] see = [public] }", "g/h/i/j=3", "g/z=1000",
		"k/l/10=5000")
}

func TestBudgets(t *testing.T) {
	l := grove()
	all := words("a/p a/q b/c/d b/c/e b/f g")
	for _, b := range []int{6, 7, 100, math.MaxInt} {
		gives(t, l, ":all", b, all...)
	}
	gives(t, l, ":all", 5, words("a/p a/q b/c b/f g")...) // b/c adds 20, b 120, a 300
	gives(t, l, ":all", 4, words("a/p a/q b g")...)       // b adds 100
	gives(t, l, ":all", 3, words("a b g")...)
	gives(t, l, ":all", 2, "") // a and b, and b and g, meet in the root alone
	gives(t, l, ":all", 1, "")
	gives(t, with(l, "a/z/4=30"), ":all", 4, words("a b/c b/f g")...)
	gives(t, with(l, "a/z/4=10"), ":all", 5, words("a b/c/d b/c/e b/f g")...)
	gives(t, with(l, "a/z/4=20"), ":all", 5, words("a/p a/q b/c b/f g")...) // of equal ones the deepest
	gives(t, with(l, "b/z/9=300"), ":all", 4, words("a b/c b/f g")...)      // of equal depth the least
	gives(t, l, "a/p:n b/f:n", 2, words("a/p b/f")...)
	gives(t, l, "a/p:n b/f:n", 1, "")
	gives(t, l, "b/f:n b/c/e:n", 1, "b")
	gives(t, l, "b/c/d:n b/c/e:n", 2, words("b/c/d b/c/e")...)
	gives(t, l, "b/c/d:n b/c/e:n", 1, "b/c")
	gives(t, l, "b/c/d:n b/c/e:n b/f:n", 2, words("b/c b/f")...)
	gives(t, l, "g:n", 1, "g")
}

// TestRootAlone: its files are shown without a cone.
func TestRootAlone(t *testing.T) {
	for _, b := range []int{1, 2, math.MaxInt} {
		gives(t, grove(), ":t", b)
		gives(t, files("TARGETS:target t { }"), ":t", b)
		gives(t, files("TARGETS:target t { srcs = [*, none/*] deps = [:u] } target u { srcs = [x] }", "a", "x", "y/z"), ":t", b)
	}
}

func TestRootBeside(t *testing.T) {
	l := files("TARGETS:target t { srcs = [x, a/b/c, *] deps = [:u] } target u { } target v { srcs = [x] deps = [//d:n] }", "x",
		"a/b/c", "a/y", "d/TARGETS:target n { see = [//] }", "d/e/f")
	gives(t, l, ":t", 1, "a/b")
	gives(t, l, ":v", 1, "d")
	gives(t, l, ":u", 1)
	gives(t, l, ":t :v :u", 2, "a/b", "d")
	gives(t, l, ":t :v :u", 1, "")
	gives(t, l, "d:n", 1, "d")
}

// TestOneBelowTheOther: a directory stands for all that is below it.
func TestOneBelowTheOther(t *testing.T) {
	l := files("TARGETS:target t { srcs = [p/q/r/1, p/q/2] }", "p/q/r/1", "p/q/2",
		"p/TARGETS:target n { srcs = [q/r/*] deps = [//p/q/s:n, //p.q:n] }", "p/q/s/TARGETS:target n { see = [//p/...] deps = [//p/q/s/u:n] }",
		"p/q/s/u/TARGETS:target n { see = [//p/q/...] srcs = [v/w] }", "p/q/s/u/v/w", "p.q/TARGETS:target n { see = [//p] }", "p-q/x")
	gives(t, l, ":t", 1, "p/q")
	gives(t, l, "p/q/s/u:n", 1, "p/q/s/u")
	gives(t, l, "p/q/s:n", 1, "p/q/s")
	gives(t, l, "p:n", 2, "p", "p.q")
	gives(t, l, "p:n", 1, "")
	gives(t, l, "p/q/s:n :t", 1, "p/q")
	gives(t, l, "p/q/s/u:n p.q:n p/q/s:n", 2, "p/q/s", "p.q")
}

// TestDeepest: a package as deep as its manifest lets it be.
func TestDeepest(t *testing.T) {
	pkg := strings.TrimSuffix(strings.Repeat("a/", api.MaxDepth-1), "/")
	l := files(pkg+"/TARGETS:target t { srcs = [x, *y] deps = [//b:n] }", pkg+"/x", pkg+"/zy", "b/TARGETS:target n { see = [public] }")
	gives(t, l, pkg+":t", 2, pkg, "b")
	gives(t, l, pkg+":t", 1, "")
	gives(t, l, "b:n", 1, "b")
}

// TestMostOfAll: as many files, targets and cones as there may be, with little room for calls to nest.
func TestMostOfAll(t *testing.T) {
	defer debug.SetMaxStack(debug.SetMaxStack(1 << 20))
	const packs = api.MaxFiles / 2
	var list, dirs []string
	for p := range packs {
		var b strings.Builder
		for n := range api.MaxTargets {
			next := fmt.Sprintf(":t%02d", n+1)
			switch {
			case n == api.MaxTargets-1 && p == packs-1:
				next = ""
			case n == api.MaxTargets-1:
				next = fmt.Sprintf("//d%d/p%03d:t00", (p+1)/16%10, p+1)
			}
			fmt.Fprintf(&b, "target t%02d{deps=[%s]srcs=[f,*]see=[public]}\n", n, next)
		}
		dir := fmt.Sprintf("d%d/p%03d", p/16%10, p)
		list = append(list, dir+"/TARGETS:"+b.String(), dir+"/f=h")
		dirs = append(dirs, dir)
	}
	slices.SortFunc(dirs, byPieces)
	l := files(list...)
	over(t, l, "d0/p000:t00", packs)
	gives(t, l, "d5/p255:t63", 1, "d5/p255")
	for i, f := range l {
		if f.Text == "" {
			l[i].Size = 1
		}
	}
	gives(t, l, "d0/p000:t00", packs, dirs...)
	gives(t, l, "d0/p000:t00", 10, words("d0 d1 d2 d3 d4 d5 d6 d7 d8 d9")...)
	gives(t, l, "d0/p000:t00", 9, "")
}

// P18.2: sizes.

// filled is l with that size of p for which the sizes of what k shows are together so many less than MaxTotal; the others must come near it.
func filled(t *testing.T, l []api.File, k []string, p string, less int) []api.File {
	t.Helper()
	l = with(l, p+"=0")
	i := slices.IndexFunc(l, func(f api.File) bool { return f.Path == p })
	size := new(big.Int).Sub(big.NewInt(total), sumOf(viewOf(l, k)))
	l[i].Size = int(size.Int64()) - less
	if e := snap.Valid(l); !size.IsInt64() || e != api.OK {
		t.Fatalf("the test's own files: %s is left for %s", size, p)
	}
	return l
}

func TestSizesAtTheEdge(t *testing.T) {
	k := words("a b")
	for _, c := range []struct{ more, last string }{
		{"a/1=h", "a/2"}, {"a/1=h", "b/2"}, {"a/s/u/1=h", "b/2"}, // in and below cones
		{"1=h", "2"}, {"1=h", "a/s/2"}, {"b/1=h", "1"}, // right in the root, which nothing asks for
		{"b/1=h-50", "a/1"}, {"b/y.c=h", "a/x.c"},
	} {
		for _, b := range []int{2, 5} {
			l := with(example(), c.more)
			check(t, "P18.2", filled(t, l, k, c.last, 0), labs("a:a"), b, k, api.Fault{})
			check(t, "P18.2", filled(t, l, k, c.last, 1), labs("a:a"), b, k, api.Fault{})
			over(t, filled(t, l, k, c.last, -1), "a:a", b)
			over(t, filled(t, l, k, c.last, -2), "a:a", b)
			over(t, with(filled(t, l, k, c.last, 0), "r=1"), "a:a", b)
			over(t, with(filled(t, l, k, c.last, 0), "r/x=1"), "a:a", 1) // by a merge
			check(t, "P18.2", with(filled(t, l, k, c.last, 0), "r/x=1"), labs("a:a"), b, k, api.Fault{})
			check(t, "P18.2", with(filled(t, l, k, c.last, 0), "r=0"), labs("a:a"), b, k, api.Fault{})
		}
	}
	// Right in a directory above a cone.
	l := filled(t, with(example(), "c/1=h", "c/e/1=h", "c/e/2=h"), words("c/d"), "c/2", 0)
	gives(t, l, "c/d:d", 1, "c/d")
	over(t, with(l, "3=1"), "c/d:d", 1)
	over(t, filled(t, l, words("c/d"), "c/2", -1), "c/d:d", 1)
	// Without a cone.
	root := filled(t, files("TARGETS:target t { }", "1=h", "a/1=h"), nil, "2", 0)
	gives(t, root, ":t", 1)
	over(t, filled(t, root, nil, "2", -1), ":t", 1)
	over(t, with(root, "3=1"), ":t", 1)
}

// TestSizesOfMerges: the whole is just MaxTotal, or one more, where two cones become the root.
func TestSizesOfMerges(t *testing.T) {
	for _, c := range []struct{ more, last string }{{"e/1=h", "e/2"}, {"a/1=h", "e/2"}, {"e/1=h", "b/2"}, {"e/1=h-100", "1"}, {"c/1=h", "c/d/e/f"}} {
		l := with(example(), c.more)
		whole := []string{""}
		check(t, "P18.2", filled(t, l, whole, c.last, 0), labs("a:a"), 1, whole, api.Fault{})
		over(t, filled(t, l, whole, c.last, -1), "a:a", 1)
		gives(t, filled(t, l, whole, c.last, -1), "a:a", 2, "a", "b")
		gives(t, filled(t, l, whole, c.last, 0), "a:a", 2, "a", "b")
	}
	// Each step is held against MaxTotal only as the last one.
	l := with(grove(), "a/z/4=h", "a/z/5=h")
	gives(t, l, ":all", 6, words("a/p a/q b/c/d b/c/e b/f g")...)
	gives(t, l, ":all", 4, words("a/p a/q b g")...)
	over(t, l, ":all", 3)
	over(t, l, ":all", 2)
	over(t, l, ":all", 1)
	// A size above MaxTotal counts as MaxTotal: of equal ones the deepest, though the other one would not be too great.
	l = files("TARGETS:target t { deps = [//a/b/c:n, //a/b/d:n, //e/f:n, //e/g:n] }")
	for _, p := range words("a/b/c a/b/d e/f e/g") {
		l = with(l, p+"/TARGETS:target n { see = [public] }")
	}
	l = filled(t, with(l, "e/z/1=h"), words("a/b/c a/b/d e"), "e/z/2", 0)
	gives(t, l, ":t", 4, words("a/b/c a/b/d e/f e/g")...)
	gives(t, with(l, "a/b/z/1=h", "a/b/z/2=h-500"), ":t", 3, words("a/b e/f e/g")...)
	over(t, with(l, "a/b/z/1=h", "a/b/z/2=h"), ":t", 3)
	gives(t, with(without(l, "e/z/1"), "a/b/z/1=h", "a/b/z/2=h"), ":t", 3, words("a/b/c a/b/d e")...)
}

// TestSizesThatWrap: sums that an int would hold as less, or as nothing.
func TestSizesThatWrap(t *testing.T) {
	for n := 2; n <= 400; n++ {
		if n > 20 && n%4 != 0 {
			continue
		}
		var in, out []string
		for i := range n {
			in = append(in, fmt.Sprintf("b/z%03d=h", i))
			out = append(out, fmt.Sprintf("e/z%03d=h", i))
		}
		over(t, with(example(), in...), "a:a", 5)
		over(t, with(example(), in...), "b:b", 1)
		gives(t, with(example(), in...), "c/d:d", 1, "c/d")
		gives(t, with(example(), out...), "a:a", 5, "a", "b")
		over(t, with(example(), out...), "a:a", 1)
	}
	gives(t, with(example(), "b/z=h"), "a:a", 1, "")
	gives(t, with(example(), "b/z=h", "a/z=h-200"), "b:b", 1, "b")
}

// The oracle: DOC.md's words, by chapter 2's pieces, over a world whose manifests are known as targets; sizes are added as numbers of any length.

func pieces(p string) []string {
	if p == "" {
		return nil
	}
	return strings.Split(p, "/")
}

func byPieces(p, q string) int { return slices.Compare(pieces(p), pieces(q)) }

func byFiles(a, b api.File) int { return byPieces(a.Path, b.Path) }

func isAbove(p, q string) bool {
	x, y := pieces(p), pieces(q)
	return len(x) < len(y) && slices.Equal(x, y[:len(x)])
}

func isWithin(p, dir string) bool { return p == dir || isAbove(dir, p) }

func dirOf(p string) string { return strings.Join(pieces(p)[:len(pieces(p))-1], "/") }

func base(p string) string { return p[strings.LastIndex(p, "/")+1:] }

func joined(pkg, p string) string {
	if pkg == "" {
		return p
	}
	return pkg + "/" + p
}

func common(p, q string) string {
	x, y := pieces(p), pieces(q)
	n := 0
	for n < len(x) && n < len(y) && x[n] == y[n] {
		n++
	}
	return strings.Join(x[:n], "/")
}

func areCones(k []string) bool {
	for i, c := range k {
		for _, d := range k[:i] {
			if byPieces(d, c) >= 0 || isAbove(d, c) || isAbove(c, d) {
				return false
			}
		}
	}
	return true
}

func shows(k []string, p string) bool {
	d := dirOf(p)
	return d == "" || slices.ContainsFunc(k, func(c string) bool { return isWithin(d, c) || isAbove(d, c) })
}

func viewOf(l []api.File, k []string) []api.File {
	return slices.DeleteFunc(slices.Clone(l), func(f api.File) bool { return !shows(k, f.Path) })
}

func sumOf(l []api.File) *big.Int {
	sum := new(big.Int)
	for _, f := range l {
		sum.Add(sum, big.NewInt(int64(f.Size)))
	}
	return sum
}

func isOver(l []api.File, k []string) bool {
	return sumOf(viewOf(l, k)).Cmp(big.NewInt(total)) > 0
}

func costOf(l []api.File, k []string) int {
	if isOver(l, k) {
		return total
	}
	return int(sumOf(viewOf(l, k)).Int64())
}

func coverOf(ps []string) []string {
	var dirs []string
	for _, p := range ps {
		if d := dirOf(p); d != "" {
			dirs = append(dirs, d)
		}
	}
	heads := slices.DeleteFunc(slices.Clone(dirs), func(d string) bool {
		return slices.ContainsFunc(dirs, func(e string) bool { return isAbove(e, d) })
	})
	slices.SortFunc(heads, byPieces)
	return slices.Compact(heads)
}

func mergedAt(k []string, p string) []string {
	merged := slices.DeleteFunc(slices.Clone(k), func(c string) bool { return isWithin(c, p) })
	merged = append(merged, p)
	slices.SortFunc(merged, byPieces)
	return merged
}

func downOf(l []api.File, k []string, b int) []string {
	for len(k) > b {
		var at []string
		for i := 1; i < len(k); i++ {
			at = append(at, common(k[i-1], k[i]))
		}
		best := slices.MinFunc(at, func(p, q string) int {
			x, y := costOf(l, mergedAt(k, p)), costOf(l, mergedAt(k, q))
			switch {
			case x != y && x < y:
				return -1
			case x != y:
				return 1
			case len(pieces(p)) != len(pieces(q)):
				return len(pieces(q)) - len(pieces(p))
			}
			return byPieces(p, q)
		})
		k = mergedAt(k, best)
	}
	return k
}

type world struct {
	packs map[string]pack
	rest  []api.File // all files but the packages' manifests
}

type pack struct {
	targets []api.Target
	bad     bool // its text does not parse
}

// all are the packages, in one order, so that each run has the same worlds.
func (w world) all() []string { return slices.Sorted(maps.Keys(w.packs)) }

func (w world) snapshot() []api.File {
	l := slices.Clone(w.rest)
	for _, pkg := range w.all() {
		text := ""
		for _, x := range w.packs[pkg].targets {
			text += written(x)
		}
		if w.packs[pkg].bad {
			text += "target"
		}
		l = append(l, api.File{Path: joined(pkg, "TARGETS"), Text: text, Size: len(text)})
	}
	slices.SortFunc(l, byFiles)
	return l
}

func written(x api.Target) string {
	var deps []string
	for _, d := range x.Deps {
		deps = append(deps, "//"+d.Pkg+":"+d.Name)
	}
	return fmt.Sprintf("target %s { srcs = [%s] deps = [%s] see = [%s] }\n",
		x.Name, strings.Join(x.Srcs, ", "), strings.Join(deps, ", "), strings.Join(x.See, ", "))
}

func (w world) target(a api.Label) api.Target {
	for _, x := range w.packs[a.Pkg].targets {
		if x.Name == a.Name && !w.packs[a.Pkg].bad {
			return x
		}
	}
	return api.Target{}
}

// closure asks each file whether something reached has asked for it.
func (w world) closure(l []api.File, labels []api.Label) []string {
	in := slices.Clone(labels)
	for i := 0; i < len(in); i++ {
		for _, d := range w.target(in[i]).Deps {
			if !slices.Contains(in, d) {
				in = append(in, d)
			}
		}
	}
	var ps []string
	for _, f := range l {
		if slices.ContainsFunc(in, func(a api.Label) bool {
			return f.Path == joined(a.Pkg, "TARGETS") || slices.ContainsFunc(w.target(a).Srcs, func(s string) bool { return names(joined(a.Pkg, s), f.Path) })
		}) {
			ps = append(ps, f.Path)
		}
	}
	return ps
}

// names: does a source, written from the root, name the path?
func names(src, p string) bool {
	ahead, behind, star := strings.Cut(src, "*")
	if !star {
		return src == p
	}
	return base(p) != "TARGETS" && len(p) >= len(ahead)+len(behind) && strings.HasPrefix(p, ahead) && strings.HasSuffix(p, behind) &&
		!strings.Contains(p[len(ahead):len(p)-len(behind)], "/")
}

// run is what the compile of a world's snapshot has to answer, and the cover.
func (w world) run(l []api.File, labels []api.Label, b int) (k []string, f api.Fault, cover []string) {
	if _, f := build.Of(l, labels); f.Code != api.OK {
		return nil, f, nil
	}
	cover = coverOf(w.closure(l, labels))
	k = downOf(l, cover, b)
	if isOver(l, k) {
		return nil, api.Fault{Code: api.ErrOver}, cover
	}
	return k, api.Fault{}, cover
}

// Worlds to hold it against.

func pick[T any](r *rand.Rand, l []T) T { return l[r.Intn(len(l))] }

func picks[T comparable](r *rand.Rand, n int, l []T) []T {
	var some []T
	for range n {
		if x := pick(r, l); !slices.Contains(some, x) {
			some = append(some, x)
		}
	}
	return some
}

// anyWorld: harm is how many of its parts are out of order.
func anyWorld(r *rand.Rand, harm int) world {
	w := world{packs: map[string]pack{}}
	var all []api.Label
	for _, pkg := range picks(r, 1+r.Intn(10), []string{"", "a", "a/b", "a/b/c", "a/S", "a-b", "b/c", "b/d", "b/d/e/f", "b/d/e/g", "c/x/y", "c/x/z"}) {
		w.packs[pkg] = pack{}
		for _, name := range picks(r, 1+r.Intn(3), []string{"n", "m", "target", "A"}) {
			all = append(all, api.Label{Pkg: pkg, Name: name})
		}
	}
	r.Shuffle(len(all), func(i, j int) { all[i], all[j] = all[j], all[i] })
	for i, a := range all {
		x := api.Target{Name: a.Name, See: []string{pick(r, []string{"public", "//..."})}}
		x.Srcs = picks(r, r.Intn(4), []string{"x.c", "y.c", "*.c", "*", "b/x.c", "b/*", "s/*.h", "x*", "none*", "none/*"})
		if i > 0 {
			x.Deps = picks(r, r.Intn(4), all[:i])
		}
		w.packs[a.Pkg] = pack{targets: append(w.packs[a.Pkg].targets, x)}
	}
	w.rest = anyFiles(r, w)
	for range harm {
		w.spoil(r, pick(r, all), pick(r, all))
	}
	return w
}

// anySize is one of a few kinds, so that costs are often equal, or near MaxTotal.
func anySize(r *rand.Rand, kind int) int {
	switch kind {
	case 0:
		return r.Intn(3)
	case 1, 2:
		return r.Intn(1000)
	case 3:
		return []int{0, 1, half / 4, half / 2, half - 1, half}[r.Intn(6)]
	case 4:
		return half / 8
	}
	return []int{half, half - 1, half / 2, 1, 0, 0, 0, 0, 0, 0, 0, 0}[r.Intn(12)]
}

func anyFiles(r *rand.Rand, w world) []api.File {
	there := map[string]int{}
	for _, pkg := range append(w.all(), "", "a/b/q", "b/d", "b/w", "c", "c/w/w", "z") {
		for _, s := range []string{"x.c", "y.c", "b/x.c", "b/y", "s/q.h", "zz", "b.c", "u/v"} {
			there[joined(pkg, s)] += r.Intn(3) / 2
		}
		for _, x := range w.packs[pkg].targets {
			for _, s := range x.Srcs {
				if !strings.Contains(s, "*") {
					there[joined(pkg, s)]++
				}
			}
		}
	}
	var l []api.File
	kind := r.Intn(7)
	for _, p := range slices.Sorted(maps.Keys(there)) {
		if there[p] > 0 {
			l = append(l, api.File{Path: p, Blob: r.Intn(5), Size: anySize(r, kind)})
		}
	}
	slices.SortFunc(l, byFiles)
	return l
}

// spoil puts one thing of a label out of order.
func (w *world) spoil(r *rand.Rand, a, other api.Label) {
	p := w.packs[a.Pkg]
	i := slices.IndexFunc(p.targets, func(x api.Target) bool { return x.Name == a.Name })
	if i < 0 {
		return
	}
	x := &p.targets[i]
	switch r.Intn(6) {
	case 0:
		p.bad = true
	case 1:
		p.targets = slices.Delete(p.targets, i, i+1)
	case 2:
		w.rest = slices.DeleteFunc(w.rest, func(f api.File) bool { return strings.HasPrefix(f.Path, joined(a.Pkg, "")) && r.Intn(2) == 0 })
	case 3:
		if !slices.Contains(x.Deps, other) {
			x.Deps = append(x.Deps, other)
		}
	default:
		x.See = picks(r, r.Intn(3), []string{"//a", "//a/...", "//", "//b", "//a/b/...", "//c/..."})
	}
	w.packs[a.Pkg] = p
}

// anyLabels are one or more, nearly always of targets that are there.
func anyLabels(r *rand.Rand, w world) []api.Label {
	all := labs("q:n")
	for _, pkg := range w.all() {
		for _, x := range w.packs[pkg].targets {
			all = append(all, api.Label{Pkg: pkg, Name: x.Name})
		}
	}
	if len(all) > 1 && r.Intn(30) > 0 {
		all = all[1:]
	}
	var l []api.Label
	for range 1 + r.Intn(5) {
		l = append(l, pick(r, all))
	}
	return l
}

// TestAnyWorlds: P18.1 and P18.2 with each budget from 1 to above the number of the cover's cones.
func TestAnyWorlds(t *testing.T) {
	r := rand.New(rand.NewSource(1811))
	codes := map[api.Errno]int{}
	merged, byMerge := 0, 0
	for i := range 2500 {
		w := anyWorld(r, i%4)
		l, labels := w.snapshot(), anyLabels(r, w)
		_, last, cover := w.run(l, labels, math.MaxInt)
		for b := len(cover) + 1; b > 0; b-- {
			k, f, _ := w.run(l, labels, b)
			check(t, "P18.1, P18.2", l, labels, b, k, f)
			codes[f.Code]++
			if b < len(cover) && f.Code == api.OK {
				merged++
			}
			if f.Code == api.ErrOver && last.Code == api.OK {
				byMerge++
				last = f
			}
		}
	}
	for _, c := range []api.Errno{api.OK, api.ErrParse, api.ErrMissing, api.ErrCycle, api.ErrSee, api.ErrOver} {
		if codes[c] < 100 {
			t.Errorf("only %d answers of the code %d: the worlds say too little", codes[c], c)
		}
	}
	if merged < 700 || byMerge < 80 {
		t.Errorf("only %d merges, %d that become too great: the worlds say too little", merged, byMerge)
	}
}

// TestLayers: P18.2 by the calls that it names.
func TestLayers(t *testing.T) {
	r := rand.New(rand.NewSource(1812))
	for i := range 2000 {
		w := anyWorld(r, i%3)
		l, labels, b := w.snapshot(), anyLabels(r, w), 1+r.Intn(6)
		ps, f := closure.Of(l, labels)
		if f.Code != api.OK {
			fails(t, "P18.1", l, labels, b, f)
			continue
		}
		k, _ := merge.Down(l, cone.Cover(ps), b)
		view, e := cone.View(l, k)
		if e != api.OK {
			t.Fatalf("P18.2: there is no view under %q: %d", k, e)
		}
		if sumOf(view).Cmp(big.NewInt(total)) > 0 {
			k, f = nil, api.Fault{Code: api.ErrOver}
		}
		check(t, "P18.2", l, labels, b, k, f)
	}
}

// P18.3

// TestEnough: W1, the build under the cones is that of the whole, and there are at most b.
func TestEnough(t *testing.T) {
	r := rand.New(rand.NewSource(1821))
	less := 0
	for i := range 3000 {
		w := anyWorld(r, i%3)
		l, labels, b := w.snapshot(), anyLabels(r, w), 1+r.Intn(6)
		n, fault := build.Of(l, labels)
		k, f := compile.Run(l, labels, b)
		if fault.Code != api.OK {
			if !sameFault(f, fault) || len(k) > 0 {
				t.Fatalf("W1: %s: %q, %+v, want %+v", shown(l, labels, b), k, f, fault)
			}
			continue
		}
		if f.Code != api.OK {
			if !sameFault(f, api.Fault{Code: api.ErrOver}) || len(k) > 0 {
				t.Fatalf("W1: %s: %q, %+v", shown(l, labels, b), k, f)
			}
			continue
		}
		view, e := cone.View(l, k)
		m, g := build.Of(view, labels)
		if e != api.OK || len(k) > b || !sameNodes(m, n) || !sameFault(g, api.Fault{}) {
			t.Fatalf("W1: %s: %q: the build is %+v, %+v, want %+v", shown(l, labels, b), k, m, g, n)
		}
		if len(view) < len(l) {
			less++
		}
		// The view's own cones are no others than these, or below them.
		if again, g := compile.Run(view, labels, math.MaxInt); g.Code != api.OK || !areWithin(again, k) {
			t.Fatalf("W1: %s: %q, but of the view %q, %+v", shown(l, labels, b), k, again, g)
		}
	}
	if less < 1000 {
		t.Errorf("only %d views are less than the whole: the worlds say too little", less)
	}
}

// areWithin: is each of k one of the cones, or below one?
func areWithin(k, cones []string) bool {
	return !slices.ContainsFunc(k, func(c string) bool {
		return !slices.ContainsFunc(cones, func(d string) bool { return isWithin(c, d) })
	})
}

// TestNotMore: W2, what is answered are cones; with budget enough they are the cover, of which none can be left out.
func TestNotMore(t *testing.T) {
	r := rand.New(rand.NewSource(1822))
	spared := 0
	for i := range 3000 {
		w := anyWorld(r, i%3)
		l, labels := w.snapshot(), anyLabels(r, w)
		ps := w.closure(l, labels)
		cover := coverOf(ps)
		for _, b := range []int{1, 2, max(len(cover)-1, 1), max(len(cover), 1), len(cover) + 1, math.MaxInt} {
			k, f := compile.Run(l, labels, b)
			if !areCones(k) || cone.Valid(k) != api.OK {
				t.Fatalf("W2: %s: %q are no cones", shown(l, labels, b), k)
			}
			if f.Code != api.OK || b < len(cover) {
				continue
			}
			if !slices.Equal(k, cover) {
				t.Fatalf("W2: %s: %q, want %q", shown(l, labels, b), k, cover)
			}
			for i := range k {
				left := slices.Delete(slices.Clone(k), i, i+1)
				if !slices.ContainsFunc(ps, func(p string) bool { return !shows(left, p) }) {
					t.Fatalf("W2: %s: of %q the cone %q can be left out", shown(l, labels, b), k, k[i])
				}
				spared++
			}
		}
	}
	if spared < 3000 {
		t.Errorf("only %d cones were left out: the worlds say too little", spared)
	}
}

// TestLabelsAreASet: in another order, and several times, up to MaxTargets.
func TestLabelsAreASet(t *testing.T) {
	for _, labels := range []string{":all", ":all :all", ":all g:n a/p:n", "a/p:n :all", "g:n g:n b/f:n :t :all a/q:n g:n"} {
		gives(t, grove(), labels, 4, words("a/p a/q b g")...)
	}
	r := rand.New(rand.NewSource(1831))
	for i := range 1500 {
		w := anyWorld(r, i%4)
		l, labels, b := w.snapshot(), anyLabels(r, w), 1+r.Intn(6)
		k, f := compile.Run(l, labels, b)
		for range 4 {
			others := slices.Clone(labels)
			for range r.Intn(60) {
				others = append(others, pick(r, labels))
			}
			if r.Intn(4) == 0 {
				for len(others) < api.MaxTargets {
					others = append(others, pick(r, labels))
				}
			}
			others = others[:min(len(others), api.MaxTargets)]
			r.Shuffle(len(others), func(i, j int) { others[i], others[j] = others[j], others[i] })
			check(t, "P18.3", l, others, b, k, f)
		}
		check(t, "P18.3", l, slices.Compact(slices.Clone(labels)), b, k, f)
		fails(t, "P18.1", l, slices.Repeat(labels, api.MaxTargets+1), b, api.Fault{Code: api.ErrArg})
	}
}

// TestGreaterBudgets: where the cover has no more cones than the smaller one, all are one.
func TestGreaterBudgets(t *testing.T) {
	r := rand.New(rand.NewSource(1832))
	for i := range 1000 {
		w := anyWorld(r, i%4)
		l, labels := w.snapshot(), anyLabels(r, w)
		enough := max(len(coverOf(w.closure(l, labels))), 1)
		k, f := compile.Run(l, labels, enough)
		for _, b := range []int{enough + 1, enough + 2, enough + 1 + r.Intn(1000), api.MaxFiles, math.MaxInt32, math.MaxInt - 1, math.MaxInt} {
			check(t, "P18.3", l, labels, b, k, f)
		}
		if _, fault := build.Of(l, labels); fault.Code != api.OK { // nor does a smaller one change the build's fault
			check(t, "P18.3", l, labels, 1, nil, fault)
		}
	}
}

// TestAnythingAtAll: whatever is handed in, there is an answer, with cones or with a fault.
func TestAnythingAtAll(t *testing.T) {
	r := rand.New(rand.NewSource(1841))
	texts := []string{"", "/", "a", "a/b", "a//", "TARGETS", "a/TARGETS", "..", "\xff", "\x00", "é", strings.Repeat("a/", 1000), "b"}
	numbers := []int{0, 1, -1, 10, half, half + 1, math.MaxInt, math.MinInt}
	for i := range 20000 {
		var l []api.File
		for range r.Intn(4) {
			f := api.File{Path: pick(r, texts), Text: pick(r, append(texts, "target a { }", "target")), Blob: pick(r, numbers), Size: pick(r, numbers)}
			if r.Intn(3) > 0 {
				f.Blob, f.Size = 0, len(f.Text)
			}
			l = append(l, f)
		}
		var labels []api.Label
		for range r.Intn(3) {
			labels = append(labels, api.Label{Pkg: pick(r, texts), Name: pick(r, texts)})
		}
		if i%50 == 0 {
			l, labels = slices.Repeat(l, 1000), slices.Repeat(labels, 1000)
		}
		b := pick(r, numbers)
		k, f := compile.Run(l, labels, b)
		if e := snap.Valid(l); e != api.OK && !sameFault(f, api.Fault{Code: e}) || f.Code != api.OK && len(k) > 0 || !areCones(k) {
			t.Fatalf("P18.1: %s: %q, %+v", shown(l, labels, b), k, f)
		}
	}
}

// P18.4

var (
	markFile  = api.File{Path: "mark", Text: "mark", Blob: -1, Size: -1}
	markLabel = api.Label{Pkg: "mark", Name: "mark"}
)

func withRoom[T any](items []T, mark T) (list, whole []T) {
	whole = append(slices.Clone(items), mark, mark, mark, mark)
	return whole[:len(items)], whole
}

func fill[T any](l []T, mark T) {
	for i := range l[:cap(l)] {
		l[:cap(l)][i] = mark
	}
}

func isFilled[T comparable](l []T, mark T) bool {
	return !slices.ContainsFunc(l[:cap(l)], func(x T) bool { return x != mark })
}

// memoryWorld is now and then no snapshot, or has labels that may not be.
func memoryWorld(r *rand.Rand, harm int) ([]api.File, []api.Label, int) {
	w := anyWorld(r, harm)
	l, labels, b := w.snapshot(), anyLabels(r, w), 1+r.Intn(5)
	switch r.Intn(20) {
	case 0:
		r.Shuffle(len(l), func(i, j int) { l[i], l[j] = l[j], l[i] })
	case 1:
		labels = append(labels, api.Label{})
	case 2:
		b = -b
	}
	return l, labels, b
}

func TestWhatIsHandedInStays(t *testing.T) {
	r := rand.New(rand.NewSource(1851))
	for i := range 2500 {
		files, asked, b := memoryWorld(r, i%4)
		want, fault := compile.Run(slices.Clip(slices.Clone(files)), slices.Clip(slices.Clone(asked)), b)
		l, wholeL := withRoom(files, markFile)
		labels, wholeT := withRoom(asked, markLabel)
		wasL, wasT := slices.Clone(wholeL), slices.Clone(wholeT)
		check(t, "P18.4", l, labels, b, want, fault) // what the spare room has plays no part
		if !slices.Equal(wholeL, wasL) || !slices.Equal(wholeT, wasT) {
			t.Fatalf("P18.4: %s changed what was handed in, or the room behind it", shown(l, labels, b))
		}
	}
}

// TestAnswersAreNew: what was handed in and one answer are written over and lengthened, and nothing shows in the others.
func TestAnswersAreNew(t *testing.T) {
	r := rand.New(rand.NewSource(1852))
	circles, cones := 0, 0
	for i := range 2500 {
		files, asked, b := memoryWorld(r, i%4)
		l, wholeL := withRoom(files, markFile)
		labels, wholeT := withRoom(asked, markLabel)
		k, f := compile.Run(l, labels, b)
		m, g := compile.Run(l, labels, b)
		want, fault := slices.Clone(k), f
		fault.Circle = slices.Clone(f.Circle)
		fill(wholeL, markFile)
		fill(wholeT, markLabel)
		if !slices.Equal(k, want) || !sameFault(f, fault) {
			t.Fatalf("P18.4: an answer shares memory with what was handed in: %q, %+v, want %q, %+v", k, f, want, fault)
		}
		circles += min(len(f.Circle), 1)
		cones += min(len(k), 1)
		longer := append(append(k, "more"), "more")
		more := append(append(f.Circle, markLabel), markLabel)
		fill(k, "mark")
		fill(f.Circle, markLabel)
		fill(longer, "mark")
		fill(more, markLabel)
		if !isFilled(wholeL, markFile) || !isFilled(wholeT, markLabel) {
			t.Fatalf("P18.4: an answer shares memory with what was handed in: %q, %+v", want, fault)
		}
		if !slices.Equal(m, want) || !sameFault(g, fault) {
			t.Fatalf("P18.4: two answers share memory: %q, %+v, want %q, %+v", m, g, want, fault)
		}
		check(t, "P18.4", files, asked, b, want, fault)
	}
	if circles < 50 || cones < 600 {
		t.Errorf("only %d circles and %d with cones: the worlds say too little", circles, cones)
	}
}

// TestNothingIsKept: an answer hangs on its arguments, not on the calls ahead of it.
func TestNothingIsKept(t *testing.T) {
	l, labels := example(), labs("a:a")
	for range 3 {
		check(t, "P18.4", l, labels, 2, words("a b"), api.Fault{})
		check(t, "P18.4", l, labels, 1, []string{""}, api.Fault{})
		fails(t, "P18.4", l, labels, 0, api.Fault{Code: api.ErrArg})
		fails(t, "P18.4", nil, labels, 2, api.Fault{Code: api.ErrMissing, Label: lab("a:a")})
		over(t, great(l), "a:a", 2)
	}
	labels[0] = lab("c/d:d")
	check(t, "P18.4", l, labels, 2, words("c/d"), api.Fault{})
	i := slices.IndexFunc(l, func(f api.File) bool { return f.Path == "c/d/TARGETS" })
	l[i].Text += "}"
	l[i].Size++
	fails(t, "P18.4", l, labels, 2, api.Fault{Code: api.ErrParse, Path: "c/d/TARGETS", At: 25})
	l[i].Size++
	fails(t, "P18.4", l, labels, 2, api.Fault{Code: api.ErrSnap})
	check(t, "P18.4", example(), labels, 2, words("c/d"), api.Fault{})
}
