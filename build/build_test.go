package build_test

import (
	"fmt"
	"maps"
	"math/rand"
	"runtime/debug"
	"slices"
	"strings"
	"testing"

	"copse/api"
	"copse/build"
)

// lab is the label of a text "a/b:n"; labs those of a text with blanks between.
func lab(text string) api.Label {
	pkg, name, _ := strings.Cut(text, ":")
	return api.Label{Pkg: pkg, Name: name}
}

func labs(text string) []api.Label {
	var l []api.Label
	for _, w := range strings.Fields(text) {
		l = append(l, lab(w))
	}
	return l
}

// files are a snapshot: each word is a path; a manifest's text stands behind its path and a colon.
func files(words ...string) []api.File {
	var l []api.File
	for i, w := range words {
		p, text, _ := strings.Cut(w, ":")
		f := api.File{Path: p, Text: text, Size: len(text)}
		if base(p) != "TARGETS" {
			f = api.File{Path: p, Blob: 100 + i, Size: 7 * i}
		}
		l = append(l, f)
	}
	slices.SortFunc(l, func(a, b api.File) int { return byWords(a.Path, b.Path) })
	return l
}

// without leaves files out, with puts some in or in their places.
func without(l []api.File, ps ...string) []api.File {
	return slices.DeleteFunc(slices.Clone(l), func(f api.File) bool { return slices.Contains(ps, f.Path) })
}

func with(l []api.File, words ...string) []api.File {
	more := files(words...)
	for _, f := range more {
		l = without(l, f.Path)
	}
	l = append(l, more...)
	slices.SortFunc(l, func(a, b api.File) int { return byWords(a.Path, b.Path) })
	return l
}

func pieces(p string) []string {
	if p == "" {
		return nil
	}
	return strings.Split(p, "/")
}

func byWords(p, q string) int { return slices.Compare(pieces(p), pieces(q)) }

func byLabels(a, b api.Label) int {
	if c := byWords(a.Pkg, b.Pkg); c != 0 {
		return c
	}
	return strings.Compare(a.Name, b.Name)
}

func base(p string) string { return p[strings.LastIndex(p, "/")+1:] }

func joined(pkg, p string) string {
	if pkg == "" {
		return p
	}
	return pkg + "/" + p
}

func find(l []api.File, p string) (api.File, bool) {
	for _, f := range l {
		if f.Path == p {
			return f, true
		}
	}
	return api.File{}, false
}

// node is one whose sources are files of a list.
func node(l []api.File, name, srcs, deps string) api.Node {
	n := api.Node{Label: lab(name), Deps: labs(deps)}
	for _, p := range strings.Fields(srcs) {
		f, ok := find(l, p)
		if !ok {
			panic("no file " + p)
		}
		n.Srcs = append(n.Srcs, f)
	}
	return n
}

func sameNodes(a, b []api.Node) bool {
	return slices.EqualFunc(a, b, func(x, y api.Node) bool {
		return x.Label == y.Label && slices.Equal(x.Srcs, y.Srcs) && slices.Equal(x.Deps, y.Deps)
	})
}

func sameFault(a, b api.Fault) bool {
	return a.Code == b.Code && a.Label == b.Label && a.Other == b.Other && a.Path == b.Path && a.At == b.At && slices.Equal(a.Circle, b.Circle)
}

func check(t *testing.T, promise string, l []api.File, labels []api.Label, want []api.Node, fault api.Fault) {
	t.Helper()
	n, f := build.Of(l, labels)
	if !sameNodes(n, want) || !sameFault(f, fault) {
		t.Fatalf("%s: Of(%+v, %v):\n%+v, %+v, want\n%+v, %+v", promise, l, labels, n, f, want, fault)
	}
}

func nodes(t *testing.T, l []api.File, labels string, want ...api.Node) {
	t.Helper()
	check(t, "P13.2", l, labs(labels), want, api.Fault{})
}

func fails(t *testing.T, l []api.File, labels string, fault api.Fault) {
	t.Helper()
	check(t, "P13.3", l, labs(labels), nil, fault)
}

func unparsed(p string, at int) api.Fault { return api.Fault{Code: api.ErrParse, Path: p, At: at} }

func missing(name, p string) api.Fault {
	return api.Fault{Code: api.ErrMissing, Label: lab(name), Path: p}
}

func circle(names string) api.Fault { return api.Fault{Code: api.ErrCycle, Circle: labs(names)} }

func unseen(name, other string) api.Fault {
	return api.Fault{Code: api.ErrSee, Label: lab(name), Other: lab(other)}
}

// The examples of the chapter.

func example() []api.File {
	return files(
		"a/TARGETS:target a { srcs = [x.c, s/*.c] deps = [//b:b] }",
		"b/TARGETS:target b { srcs = [y.c] see = [//a] }",
		"a/x.c", "a/s/1.c", "a/s/2.c", "a/s/TARGETS:", "b/y.c")
}

func TestExample1(t *testing.T) {
	l := example()
	want := []api.Node{node(l, "b:b", "b/y.c", ""), node(l, "a:a", "a/s/1.c a/s/2.c a/x.c", "b:b")}
	nodes(t, l, "a:a", want...)
	nodes(t, l, "a:a a:a b:b", want...)
	nodes(t, l, "b:b a:a", want...)
	nodes(t, l, "b:b", want[0])
}

func TestExample2(t *testing.T) {
	l := example()
	fails(t, without(l, "b/y.c"), "a:a", missing("b:b", "b/y.c"))
	fails(t, without(l, "b/TARGETS"), "a:a", missing("b:b", ""))
	fails(t, with(l, "b/TARGETS:target"), "a:a", unparsed("b/TARGETS", 6))
	fails(t, l, "c:c", missing("c:c", ""))
	fails(t, with(l, "b/TARGETS:target"), "c:c", missing("c:c", ""))
}

func TestExample3(t *testing.T) {
	l := with(example(), "b/TARGETS:target b { srcs = [y.c] }")
	fails(t, l, "a:a", unseen("a:a", "b:b"))
	nodes(t, l, "b:b", node(l, "b:b", "b/y.c", ""))
	l = with(l, "b/TARGETS:target b { srcs = [y.c] deps = [//a:a] }")
	fails(t, l, "a:a", circle("a:a b:b"))
	fails(t, l, "b:b", circle("a:a b:b"))
}

func TestExample4(t *testing.T) {
	l := example()
	check(t, "P13.1", []api.File{{Path: "b"}, {Path: "a"}}, labs("a:a"), nil, api.Fault{Code: api.ErrSnap})
	check(t, "P13.1", l, []api.Label{{Pkg: "a"}}, nil, api.Fault{Code: api.ErrLabel})
	check(t, "P13.2", l, nil, nil, api.Fault{})
	check(t, "P13.2", l, []api.Label{}, nil, api.Fault{})
	check(t, "P13.2", nil, nil, nil, api.Fault{})
}

// P13.1

func TestNoSnapshot(t *testing.T) {
	good, bad := labs("a:a"), []api.Label{{Pkg: "a"}, {Pkg: "//", Name: "x"}}
	many := func(n int) []api.File {
		var l []api.File
		for i := range n {
			l = append(l, api.File{Path: fmt.Sprintf("f%04d", i)})
		}
		return l
	}
	for _, c := range []struct {
		l    []api.File
		code api.Errno
	}{
		{[]api.File{{Path: ""}}, api.ErrPath},
		{[]api.File{{Path: "a//b"}}, api.ErrPath},
		{[]api.File{{Path: "/a"}}, api.ErrPath},
		{[]api.File{{Path: "a/.."}}, api.ErrPath},
		{[]api.File{{Path: "b"}, {Path: "a"}, {Path: "a b"}}, api.ErrPath},
		{[]api.File{{Path: strings.Repeat("a/", 12) + "a"}}, api.ErrPath},
		{[]api.File{{Path: "a"}, {Path: "a"}}, api.ErrSnap},
		{[]api.File{{Path: "a"}, {Path: "a/b"}}, api.ErrSnap},
		{[]api.File{{Path: "a/TARGETS", Text: "x", Size: 2}}, api.ErrSnap},
		{[]api.File{{Path: "a/TARGETS", Text: "", Blob: 1}}, api.ErrSnap},
		{[]api.File{{Path: "a/x", Text: "x", Size: 1}}, api.ErrSnap},
		{[]api.File{{Path: "a/x", Blob: -1}}, api.ErrSnap},
		{[]api.File{{Path: "a/x", Blob: api.MaxBlob + 1}}, api.ErrSnap},
		{[]api.File{{Path: "a/x", Size: api.MaxSize + 1}}, api.ErrSnap},
		{many(api.MaxFiles + 1), api.ErrSnap},
	} {
		for _, labels := range [][]api.Label{nil, good, bad} {
			check(t, "P13.1", c.l, labels, nil, api.Fault{Code: c.code})
		}
	}
	check(t, "P13.1", many(api.MaxFiles), nil, nil, api.Fault{})
	check(t, "P13.1", many(api.MaxFiles), good, nil, missing("a:a", ""))
}

func TestNoLabel(t *testing.T) {
	deep := strings.TrimSuffix(strings.Repeat("a/", api.MaxDepth), "/")
	refused := api.Fault{Code: api.ErrLabel}
	for _, a := range []api.Label{
		{}, {Pkg: "a"}, {Pkg: "/a", Name: "a"}, {Pkg: "a/", Name: "a"}, {Pkg: "a/..", Name: "a"}, {Pkg: "a", Name: "."},
		{Pkg: "a", Name: ".."}, {Pkg: "a", Name: "..."}, {Pkg: "a", Name: "a b"}, {Pkg: "a", Name: "a/b"}, {Pkg: "a", Name: "\xff"},
		{Pkg: "a", Name: strings.Repeat("n", api.MaxComp+1)}, {Pkg: deep + "/a", Name: "a"}, {Pkg: "//a", Name: "a"},
	} {
		for _, l := range [][]api.File{nil, example(), with(example(), "b/TARGETS:target"), without(example(), "b/y.c")} {
			check(t, "P13.1", l, []api.Label{a}, nil, refused)
			check(t, "P13.1", l, []api.Label{lab("a:a"), a}, nil, refused)
			check(t, "P13.1", l, []api.Label{a, lab("a:a"), a}, nil, refused)
		}
	}
	long := strings.Repeat("n", api.MaxComp)
	fails(t, nil, deep+":"+long, missing(deep+":"+long, ""))
	fails(t, example(), ":a", missing(":a", ""))
}

// P13.2 and P13.3: the faults.

// TestFaultsParse: the least by its path, which need not be the least by its package.
func TestFaultsParse(t *testing.T) {
	all := "target n { deps = [//a:n, //a/A:n, //a/b:n, //A:n, //b:n] }"
	l := files("n/TARGETS:"+all,
		"a/TARGETS:tar", "a/A/TARGETS:target x", "a/b/TARGETS:target n {", "A/TARGETS:target n ;", "b/TARGETS:target n{}}",
		"TARGETS:target n { deps = [//n:n] } t")
	for _, c := range []struct {
		p  string
		at int
	}{{"A/TARGETS", 9}, {"TARGETS", 28}, {"a/A/TARGETS", 8}, {"a/TARGETS", 0}, {"a/b/TARGETS", 10}, {"b/TARGETS", 10}} {
		labels := "n:n"
		if c.p == "TARGETS" {
			fails(t, l, labels, unparsed("a/A/TARGETS", 8))
		}
		fails(t, l, labels+" :n", unparsed(c.p, c.at))
		fails(t, l, ":n "+labels, unparsed(c.p, c.at))
		l = with(l, c.p+":target n { see = [public] }")
	}
	nodes(t, with(l, "n/TARGETS:target n { deps = [//a:n] }"), "n:n", node(l, "a:n", "", ""), node(l, "n:n", "", "a:n"))
}

// TestFaultsParsePlaces: At is what the manifest's parsing tells, also at the text's ends.
func TestFaultsParsePlaces(t *testing.T) {
	long := "#" + strings.Repeat(" ", api.MaxManifest)
	for _, c := range []struct {
		text string
		at   int
	}{
		{"x", 0}, {"target", 6}, {"target a{srcs=[TARGETS]}", 15}, {"target a{} target a{}", 18}, {"target a;", 8},
		{"target a{deps=[:b,//p:b]}", 18}, {"\x00", 0}, {long, api.MaxManifest}, {"target a{see=[//b:c]}", 14},
	} {
		l := files("p/TARGETS:", "p/x")
		l[0].Text, l[0].Size = c.text, len(c.text)
		fails(t, l, "p:a", unparsed("p/TARGETS", c.at))
		fails(t, l, "p:zz", unparsed("p/TARGETS", c.at))
		fails(t, l, "q:a", missing("q:a", ""))
		check(t, "P13.5", l, nil, nil, api.Fault{})
	}
	fails(t, files("p/TARGETS:"), "p:a", missing("p:a", ""))
	just := "target a{}" + strings.Repeat(" ", api.MaxManifest-10)
	nodes(t, files("p/TARGETS:"+just), "p:a", node(nil, "p:a", "", ""))
}

// TestFaultsParseReached: only through a target that is there is more reached.
func TestFaultsParseReached(t *testing.T) {
	l := files("a/TARGETS:target a { deps = [//b:b] }\ntarget c { deps = [//c:c] }", "b/TARGETS:target b { deps = [//d:d, :x] }",
		"c/TARGETS:bad", "d/TARGETS:target d { }", "e/TARGETS:bad")
	fails(t, l, "a:a", missing("b:x", ""))
	fails(t, l, "a:c", unparsed("c/TARGETS", 0))
	fails(t, l, "a:a a:c", unparsed("c/TARGETS", 0))
	fails(t, l, "a:x", missing("a:x", ""))
	fails(t, l, "a:x e:x", unparsed("e/TARGETS", 0))
	fails(t, with(l, "d/TARGETS:target d { deps = [//e:q] }"), "a:a", unparsed("e/TARGETS", 0))
}

func TestFaultsMissing(t *testing.T) {
	l := files(
		"a/TARGETS:target a { srcs = [z.c, b/a, b-a, B/c, b/A] deps = [//b:b, //a:z] }\ntarget z { }",
		"b/TARGETS:target b { }", "q/x")
	fails(t, l, "a:a", missing("a:a", "a/B/c"))
	fails(t, with(l, "a/B/c"), "a:a", missing("a:a", "a/b/A"))
	fails(t, with(l, "a/B/c", "a/b/A"), "a:a", missing("a:a", "a/b/a"))
	fails(t, with(l, "a/B/c", "a/b/A", "a/b/a"), "a:a", missing("a:a", "a/b-a"))
	fails(t, with(l, "a/B/c", "a/b/A", "a/b/a", "a/b-a"), "a:a", missing("a:a", "a/z.c"))
	fails(t, with(l, "a/B/c", "a/b/A", "a/b/a", "a/z.c/d"), "a:a", missing("a:a", "a/b-a"))
	fails(t, with(l, "a/B/c/d", "a/b", "z.c"), "a:a", missing("a:a", "a/B/c"))
	// The least label, whatever is missing of it.
	fails(t, l, "q:a a:a", missing("a:a", "a/B/c"))
	fails(t, l, "a:a :a", missing(":a", ""))
	fails(t, l, "a:a a:B", missing("a:B", ""))
	fails(t, l, "a:a a:b a-b:x A:x", missing("A:x", ""))
	fails(t, l, "b:c a-b:x a/b:z", missing("a/b:z", ""))
	fails(t, l, "b:b b:a", missing("b:a", ""))
	fails(t, l, "q:q", missing("q:q", ""))
	root := files("TARGETS:target a { srcs = [x, d/y] }", "x")
	fails(t, root, ":a", missing(":a", "d/y"))
	fails(t, without(root, "x"), ":a", missing(":a", "d/y"))
	fails(t, with(without(root, "x"), "d/y"), ":a", missing(":a", "x"))
	fails(t, root, "TARGETS:a", missing("TARGETS:a", ""))
}

func TestFaultsCycle(t *testing.T) {
	one := func(deps ...string) []api.File {
		var text string
		for _, w := range deps {
			text += fmt.Sprintf("target %s { deps = [:%s] }\n", w[:1], strings.Join(strings.Split(w[1:], ""), ", :"))
		}
		text = strings.ReplaceAll(text, "[:]", "[]")
		return files("p/TARGETS:" + text)
	}
	fails(t, one("aa"), "p:a", circle("p:a"))
	fails(t, one("ab", "ba"), "p:b", circle("p:a p:b"))
	fails(t, one("ab", "bc", "cb"), "p:a", circle("p:b p:c"))
	fails(t, one("ae", "ed", "dc", "ceb", "b"), "p:a", circle("p:c p:d p:e"))
	fails(t, one("aed", "dz", "zd", "ef", "fe"), "p:a", circle("p:d p:z"))
	fails(t, one("aed", "dz", "zd", "ef", "fe"), "p:e", circle("p:e p:f"))
	fails(t, one("aed", "dde", "ef", "fe"), "p:a", circle("p:d"))
	fails(t, one("aed", "dde", "efd", "fe"), "p:a", circle("p:d p:e p:f"))
	fails(t, one("abc", "bc", "c", "xx"), "p:x p:a", circle("p:x"))
	nodes(t, one("abc", "bc", "c", "xx"), "p:a", node(nil, "p:c", "", ""), node(nil, "p:b", "", "p:c"), node(nil, "p:a", "", "p:b p:c"))
	// By packages: the order of paths.
	l := files("a-b/TARGETS:target n { deps = [//a/b:n] }", "a/b/TARGETS:target n { deps = [//a-b:n, //b:n] }",
		"b/TARGETS:target n { deps = [//b:n] }", "A/TARGETS:target n { }")
	fails(t, l, "b:n a-b:n", circle("a/b:n a-b:n"))
	fails(t, l, "b:n A:n", circle("b:n"))
	nodes(t, l, "A:n", node(nil, "A:n", "", ""))
}

func TestFaultsSee(t *testing.T) {
	l := files(
		"a/TARGETS:target z { deps = [//c:c, //b:y, //b:x, :h] }\ntarget h { }\ntarget b { deps = [//b:y] }",
		"b/TARGETS:target x { }\ntarget y { see = [//d, //a/b] }\ntarget w { deps = [:x, :y] }",
		"c/TARGETS:target c { see = [//d/..., //ab] }")
	fails(t, l, "a:z", unseen("a:z", "b:x"))
	fails(t, l, "a:b a:z", unseen("a:b", "b:y"))
	fails(t, with(l, "b/TARGETS:target x { see = [//a] }\ntarget y { }"), "a:z", unseen("a:z", "b:y"))
	fails(t, with(l, "b/TARGETS:target x { see = [//a] }\ntarget y { see = [public] }"), "a:z", unseen("a:z", "c:c"))
	nodes(t, l, "b:w", node(nil, "b:x", "", ""), node(nil, "b:y", "", ""), node(nil, "b:w", "", "b:x b:y"))
	nodes(t, l, "b:x c:c", node(nil, "b:x", "", ""), node(nil, "c:c", "", ""))
}

// TestFaultsInOrder: each of the four where all the later ones are there too, at lesser labels.
func TestFaultsInOrder(t *testing.T) {
	see := "h/TARGETS:target h { }"
	l := files(see,
		"a/TARGETS:target a { deps = [//h:h] }",
		"b/TARGETS:target b { deps = [:b, //a:a, //h:h] }\ntarget see { deps = [//h:h] }",
		"c/TARGETS:target c { deps = [//b:b, //c/none:c] }\ntarget b { deps = [//b:b] }",
		"d/TARGETS:target d { deps = [//c:c, //e:e] }\ntarget m { srcs = [no] deps = [//b:b] }",
		"e/TARGETS:target e")
	fails(t, l, "d:d a:a b:b c:c", unparsed("e/TARGETS", 8))
	fails(t, l, "c:c a:a b:b", missing("c/none:c", ""))
	fails(t, l, "d:m a:a b:b", missing("d:m", "d/no"))
	fails(t, l, "c:b a:a b:b b:see", circle("b:b"))
	fails(t, l, "b:see a:a", unseen("a:a", "h:h"))
	fails(t, l, "b:see", unseen("b:see", "h:h"))
	fails(t, l, "a:zz a:a", missing("a:zz", ""))
	fails(t, l, "a:zz e:e", unparsed("e/TARGETS", 8))
	// A circle and a see fault are not told, where a literal of a greater label is missing.
	fails(t, with(l, "z/TARGETS:target z { srcs = [x] }"), "b:b a:a z:z", missing("z:z", "z/x"))
	fails(t, with(l, "z/TARGETS:target z { srcs = [x] }", "z/x"), "b:b a:a z:z", circle("b:b"))
}

// P13.2: sources.

func TestSources(t *testing.T) {
	rest := []string{"x.c", "y.c", "x.h", "d/x.c", "d/y.c", "d/e/x.c", "d/TARGETS:not parsed", "TARGETS.c", "aTARGETS", "D/TARGETS/z", "a/TARGETS.c", "a/TARGETS:t", "a/x"}
	for _, pkg := range []string{"", "p", "p/q"} {
		all := []string{"other/x.c", "z.c"}
		for _, w := range rest {
			all = append(all, joined(pkg, w))
		}
		for _, c := range []struct{ srcs, want string }{
			{"", ""},
			{"x.c", "x.c"},
			{"y.c, x.c", "x.c y.c"},
			{"*.h", "x.h"},
			{"*.none", ""},
			{"none/*", ""},
			{"x.c/*", ""},
			{"x.c, *", "TARGETS.c aTARGETS x.c x.h y.c"},
			{"*, *.c, x*, x.c", "TARGETS.c aTARGETS x.c x.h y.c"},
			{"y*c, *.c", "TARGETS.c x.c y.c"},
			{"x.c*, x.h", "x.c x.h"},
			{"x.*c, *x.c", "x.c"},
			{"T*, *TARGETS, TARGETS*", "TARGETS.c aTARGETS"},
			{"TARGETS.c", "TARGETS.c"},
			{"d/*", "d/x.c d/y.c"},
			{"d/x.c, x.c, d/e/*, d/e/x.c", "d/e/x.c d/x.c x.c"},
			{"d/e/x.c, D/TARGETS/z", "D/TARGETS/z d/e/x.c"},
			{"D/TARGETS/*, D/*", "D/TARGETS/z"},
			{"a/*", "a/TARGETS.c a/x"},
		} {
			words := slices.Clone(all)
			if pkg == "" {
				words = slices.DeleteFunc(words, func(w string) bool { return w == "z.c" })
			}
			l := files(append(words, joined(pkg, "TARGETS")+":target t { srcs = ["+c.srcs+"] }")...)
			want := ""
			for _, w := range strings.Fields(c.want) {
				want += " " + joined(pkg, w)
			}
			nodes(t, l, pkg+":t", node(l, pkg+":t", want, ""))
		}
	}
}

// TestSourcesWhole: a node's files have all four fields, up to their greatest values; two nodes may have one file.
func TestSourcesWhole(t *testing.T) {
	l := []api.File{
		{Path: "p/TARGETS", Text: "target a { srcs = [x, y, z] deps = [:b] } target b { srcs = [*] }"},
		{Path: "p/x", Blob: api.MaxBlob, Size: api.MaxSize}, {Path: "p/y", Size: 1}, {Path: "p/z", Blob: 1},
	}
	l[0].Size = len(l[0].Text)
	nodes(t, l, "p:a", node(l, "p:b", "p/x p/y p/z", ""), node(l, "p:a", "p/x p/y p/z", "p:b"))
}

// TestDeepest: a package so deep that its sources, or its manifest, are no paths.
func TestDeepest(t *testing.T) {
	deep := strings.TrimSuffix(strings.Repeat("a/", api.MaxDepth-1), "/")
	l := files(deep+"/TARGETS:target t { srcs = [x, *y] deps = [//"+deep+"/a:t] }", deep+"/x", deep+"/zy")
	fails(t, l, deep+":t", missing(deep+"/a:t", ""))
	l = with(l, deep+"/TARGETS:target t { srcs = [x, *y] }")
	nodes(t, l, deep+":t", node(l, deep+":t", deep+"/x "+deep+"/zy", ""))
	fails(t, with(l, deep+"/TARGETS:target t { srcs = [x/y] }"), deep+":t", unparsed(deep+"/TARGETS", 19))
}

// P13.2: who is seen.

func TestSeen(t *testing.T) {
	from := []string{"", "a", "a/b", "a/b/c", "a-b", "ab", "A", "public", "x", "x/a"}
	for _, c := range []struct{ see, who string }{
		{"", ""},
		{"public", " a a/b a/b/c a-b ab A public x/a"},
		{"//a", "a"},
		{"//a/...", "a a/b a/b/c"},
		{"//...", " a a/b a/b/c a-b ab A public x/a"},
		{"//", " "},
		{"//a/b", "a/b"},
		{"//a/b/..., //ab", "a/b a/b/c ab"},
		{"//public", "public"},
		{"//a/b/c/..., //A/...", "a/b/c A"},
		{"//x/...", "x/a"},
	} {
		sees := append(strings.Split(c.who, " "), "x") // an own package sees it always
		if c.who == "" {
			sees = sees[1:]
		}
		for _, pkg := range from {
			text := "target d { see = [" + c.see + "] }"
			l := files("x/TARGETS:" + text)
			if pkg == "x" {
				l[0].Text += " target n { deps = [:d] }"
				l[0].Size = len(l[0].Text)
			} else {
				l = with(l, joined(pkg, "TARGETS")+":target n { deps = [//x:d] }")
			}
			if slices.Contains(sees, pkg) {
				nodes(t, l, pkg+":n", node(nil, "x:d", "", ""), node(nil, pkg+":n", "", "x:d"))
			} else {
				fails(t, l, pkg+":n", unseen(pkg+":n", "x:d"))
			}
		}
	}
}

// P13.2 and P13.4: the order.

func TestOrder(t *testing.T) {
	one := func(rows ...string) []api.File {
		var l []string
		for _, w := range rows {
			name, deps, _ := strings.Cut(w, " ")
			pkg, n, _ := strings.Cut(name, ":")
			if deps != "" {
				deps = "//" + strings.ReplaceAll(deps, " ", ", //")
			}
			l = append(l, joined(pkg, "TARGETS")+":target "+n+" { see = [public] deps = ["+deps+"] }")
		}
		return files(l...)
	}
	order := func(l []api.File, labels, want string) {
		t.Helper()
		n, f := build.Of(l, labs(labels))
		var got []string
		for _, x := range n {
			got = append(got, x.Label.Pkg+":"+x.Label.Name)
		}
		if strings.Join(got, " ") != want || f.Code != 0 {
			t.Fatalf("P13.2: the order is %v, %+v, want %s", got, f, want)
		}
	}
	l := one("a:n c:n", "b:n", "c:n d:n", "d:n", "e:n a:n")
	order(l, "a:n b:n c:n d:n e:n", "b:n d:n c:n a:n e:n")
	order(l, "e:n", "d:n c:n a:n e:n")
	order(l, "b:n a:n", "b:n d:n c:n a:n")
	order(l, "c:n b:n", "b:n d:n c:n")
	l = one("a:n z:n", "b:n", "c:n b:n", "z:n", "y:n a:n b:n", ":n a/b:n", "a/b:n", "a-b:n")
	order(l, "a:n b:n c:n z:n y:n :n a/b:n a-b:n", "a/b:n :n a-b:n b:n c:n z:n a:n y:n")
	l = one("a:n b:n c:n d:n", "b:n d:n", "c:n d:n", "d:n")
	order(l, "a:n", "d:n b:n c:n a:n")
}

func TestDepsByLabel(t *testing.T) {
	l := files("p/TARGETS:target n { deps = [:z, //q:a, :a, //p/q:b, //:r, //p-q:a] } target z {} target a {}",
		"q/TARGETS:target a { see = [public] }", "p/q/TARGETS:target b { see = [public] }", "TARGETS:target r { see = [//p] }", "p-q/TARGETS:target a { see = [//...] }")
	nodes(t, l, "p:n", node(nil, ":r", "", ""), node(nil, "p:a", "", ""), node(nil, "p:z", "", ""), node(nil, "p/q:b", "", ""),
		node(nil, "p-q:a", "", ""), node(nil, "q:a", "", ""), node(nil, "p:n", "", ":r p:a p:z p/q:b p-q:a q:a"))
}

// TestMostOfAll: manifests as full as they may be, all reached; a way through all of them, with little room for calls to nest.
func TestMostOfAll(t *testing.T) {
	defer debug.SetMaxStack(debug.SetMaxStack(1 << 20))
	const packs = 256
	var words []string
	for p := range packs {
		var b strings.Builder
		for n := range api.MaxTargets {
			next := fmt.Sprintf(":t%02d", n+1)
			switch {
			case n == api.MaxTargets-1 && p == packs-1:
				next = ""
			case n == api.MaxTargets-1:
				next = fmt.Sprintf("//p%03d:t00", p+1)
			}
			fmt.Fprintf(&b, "target t%02d{deps=[%s]srcs=[f,*]see=[public]}\n", n, next)
		}
		words = append(words, fmt.Sprintf("p%03d/TARGETS:%s", p, b.String()), fmt.Sprintf("p%03d/f", p))
	}
	l := files(words...)
	n, f := build.Of(l, labs("p000:t00"))
	if f.Code != 0 || len(n) != packs*api.MaxTargets {
		t.Fatalf("P13.2: %d nodes, %+v", len(n), f)
	}
	for i, x := range n {
		at := len(n) - 1 - i
		want := api.Label{Pkg: fmt.Sprintf("p%03d", at/api.MaxTargets), Name: fmt.Sprintf("t%02d", at%api.MaxTargets)}
		if x.Label != want || len(x.Srcs) != 1 || x.Srcs[0].Path != want.Pkg+"/f" || (i > 0) != (len(x.Deps) == 1) {
			t.Fatalf("P13.4: node %d is %+v, want %v", i, x, want)
		}
	}
	last := fmt.Sprintf("p%03d", packs-1)
	l = with(l, last+"/TARGETS:target t00{deps=[//p000:t00]see=[public]}")
	if n, f := build.Of(l, labs("p000:t00")); len(n) != 0 || f.Code != api.ErrCycle || len(f.Circle) != (packs-1)*api.MaxTargets+1 {
		t.Fatalf("P13.3: %d nodes, %v, a circle of %d", len(n), f.Code, len(f.Circle))
	}
}

// The oracle: DOC.md's words over a world whose manifests are known as targets, not as texts.

type world struct {
	packs map[string]pack
	rest  []api.File // all files but the packages' manifests
}

type pack struct {
	targets []api.Target
	bad     string // a text that does not parse, and its place
	at      int
}

// all are the packages, in one order, so that each run has the same worlds.
func (w world) all() []string { return slices.Sorted(maps.Keys(w.packs)) }

func (w world) snapshot(r *rand.Rand) []api.File {
	l := slices.Clone(w.rest)
	for _, pkg := range w.all() {
		p := w.packs[pkg]
		text := p.bad
		if text == "" {
			text = written(r, pkg, p.targets)
		}
		l = append(l, api.File{Path: joined(pkg, "TARGETS"), Text: text, Size: len(text)})
	}
	slices.SortFunc(l, func(a, b api.File) int { return byWords(a.Path, b.Path) })
	return l
}

// written is a manifest's text, in one of its many forms.
func written(r *rand.Rand, pkg string, l []api.Target) string {
	var b strings.Builder
	blank := func() string { return []string{"", " ", "\n", " # a target { \n"}[r.Intn(4)] }
	for _, x := range l {
		var fields []string
		var deps []string
		for _, d := range x.Deps {
			if d.Pkg == pkg && r.Intn(2) == 0 {
				deps = append(deps, ":"+d.Name)
			} else {
				deps = append(deps, "//"+d.Pkg+":"+d.Name)
			}
		}
		for i, words := range [][]string{x.Srcs, deps, x.See} {
			if len(words) > 0 || r.Intn(4) == 0 {
				name := []string{"srcs", "deps", "see"}[i]
				fields = append(fields, name+blank()+"="+blank()+"["+blank()+strings.Join(words, blank()+","+blank())+blank()+"]"+blank())
			}
		}
		r.Shuffle(len(fields), func(i, j int) { fields[i], fields[j] = fields[j], fields[i] })
		b.WriteString("target " + x.Name + blank() + "{" + blank() + strings.Join(fields, "") + "}" + blank())
	}
	return b.String()
}

func (w world) target(a api.Label) (api.Target, bool) {
	for _, x := range w.packs[a.Pkg].targets {
		if x.Name == a.Name && w.packs[a.Pkg].bad == "" {
			return x, true
		}
	}
	return api.Target{}, false
}

// reached grows until nothing new is reached.
func (w world) reached(labels []api.Label) []api.Label {
	in := map[api.Label]bool{}
	for _, a := range labels {
		in[a] = true
	}
	for grown := true; grown; {
		grown = false
		for _, a := range keys(in) {
			x, _ := w.target(a)
			for _, d := range x.Deps {
				grown = grown || !in[d]
				in[d] = true
			}
		}
	}
	return keys(in)
}

func keys(in map[api.Label]bool) []api.Label {
	var l []api.Label
	for a := range in {
		l = append(l, a)
	}
	slices.SortFunc(l, byLabels)
	return l
}

func (w world) build(l []api.File, labels []api.Label) ([]api.Node, api.Fault) {
	all := w.reached(labels)
	for _, ask := range []func([]api.File, []api.Label) api.Fault{w.unparsed, w.lost, w.circle, w.hidden} {
		if f := ask(l, all); f.Code != 0 {
			return nil, f
		}
	}
	var told []api.Node
	ahead := map[api.Label]bool{}
	for len(told) < len(all) {
		for _, a := range all {
			x, _ := w.target(a)
			if !ahead[a] && !slices.ContainsFunc(x.Deps, func(d api.Label) bool { return !ahead[d] }) {
				deps := slices.Clone(x.Deps)
				slices.SortFunc(deps, byLabels)
				told = append(told, api.Node{Label: a, Srcs: sources(l, a.Pkg, x.Srcs), Deps: deps})
				ahead[a] = true
				break
			}
		}
	}
	return told, api.Fault{}
}

func (w world) unparsed(l []api.File, all []api.Label) api.Fault {
	var f api.Fault
	for _, a := range all {
		m := joined(a.Pkg, "TARGETS")
		if p := w.packs[a.Pkg]; p.bad != "" && (f.Code == 0 || byWords(m, f.Path) < 0) {
			f = unparsed(m, p.at)
		}
	}
	return f
}

func (w world) lost(l []api.File, all []api.Label) api.Fault {
	for _, a := range all {
		x, ok := w.target(a)
		f := api.Fault{Code: api.ErrMissing, Label: a}
		if !ok {
			return f
		}
		for _, s := range x.Srcs {
			p := joined(a.Pkg, s)
			if _, there := find(l, p); !there && !strings.Contains(s, "*") && (f.Path == "" || byWords(p, f.Path) < 0) {
				f.Path = p
			}
		}
		if f.Path != "" {
			return f
		}
	}
	return api.Fault{}
}

// circle: the least label with a way back to itself, and all that it reaches and that reach it.
func (w world) circle(l []api.File, all []api.Label) api.Fault {
	behind := map[api.Label][]api.Label{}
	for _, a := range all {
		x, _ := w.target(a)
		behind[a] = w.reached(x.Deps)
	}
	for _, a := range all {
		if slices.Contains(behind[a], a) {
			f := api.Fault{Code: api.ErrCycle}
			for _, b := range all {
				if slices.Contains(behind[a], b) && slices.Contains(behind[b], a) {
					f.Circle = append(f.Circle, b)
				}
			}
			return f
		}
	}
	return api.Fault{}
}

func (w world) hidden(l []api.File, all []api.Label) api.Fault {
	for _, a := range all {
		x, _ := w.target(a)
		deps := slices.Clone(x.Deps)
		slices.SortFunc(deps, byLabels)
		for _, d := range deps {
			y, _ := w.target(d)
			if !sees(y.See, d.Pkg, a.Pkg) {
				return api.Fault{Code: api.ErrSee, Label: a, Other: d}
			}
		}
	}
	return api.Fault{}
}

func sees(see []string, own, from string) bool {
	for _, s := range append([]string{"//" + own}, see...) {
		up, below := strings.CutSuffix(s, "/...")
		switch {
		case s == "public" || s == "//...":
			return true
		case s == "//"+from:
			return true
		case below && (up == "//"+from || strings.HasPrefix("//"+from, up+"/")):
			return true
		}
	}
	return false
}

func sources(l []api.File, pkg string, srcs []string) []api.File {
	var some []api.File
	for _, f := range l {
		for _, s := range srcs {
			if whole := joined(pkg, s); f.Path == whole || stands(whole, f.Path) {
				some = append(some, f)
				break
			}
		}
	}
	return some
}

func stands(glob, p string) bool {
	ahead, behind, star := strings.Cut(glob, "*")
	return star && base(p) != "TARGETS" && len(p) >= len(ahead)+len(behind) && strings.HasPrefix(p, ahead) && strings.HasSuffix(p, behind) &&
		!strings.Contains(p[len(ahead):len(p)-len(behind)], "/")
}

// Worlds to hold it against.

func pick[T any](r *rand.Rand, l []T) T { return l[r.Intn(len(l))] }

func picks[T comparable](r *rand.Rand, n int, l []T) []T {
	var some []T
	for range n {
		if x := pick(r, l); !slices.Contains(some, x) {
			some = append(some, x)
		}
	}
	return some
}

func packages() []string {
	return []string{"", "a", "A", "a/b", "a/b/c", "a/S", "a-b", "ab", "b", "TARGETS"}
}

func names() []string { return []string{"n", "m", "target", "A"} }

// anyWorld: harm is how many of its parts are out of order.
func anyWorld(r *rand.Rand, harm int) world {
	w := world{packs: map[string]pack{}}
	var all []api.Label
	for _, pkg := range picks(r, 1+r.Intn(8), packages()) {
		_, root := w.packs[""]
		_, below := w.packs["TARGETS"]
		if root && pkg == "TARGETS" || below && pkg == "" {
			continue // its directory would be the root's manifest
		}
		w.packs[pkg] = pack{}
		for _, name := range picks(r, 1+r.Intn(4), names()) {
			all = append(all, api.Label{Pkg: pkg, Name: name})
		}
	}
	r.Shuffle(len(all), func(i, j int) { all[i], all[j] = all[j], all[i] })
	for i, a := range all {
		x := api.Target{Name: a.Name, See: []string{pick(r, []string{"public", "//..."})}}
		x.Srcs = picks(r, r.Intn(4), []string{"x.c", "y.c", "*.c", "*", "b/x.c", "b/*", "s/*.h", "*y.c", "x*", "none*", "T*"})
		if i > 0 {
			x.Deps = picks(r, r.Intn(4), all[:i])
		}
		p := w.packs[a.Pkg]
		p.targets = append(p.targets, x)
		w.packs[a.Pkg] = p
	}
	w.rest = anyFiles(r, w)
	for range harm {
		w.spoil(r, all)
	}
	return w
}

func anyFiles(r *rand.Rand, w world) []api.File {
	ps := map[string]bool{}
	for _, pkg := range w.all() {
		p := w.packs[pkg]
		for _, s := range []string{"x.c", "y.c", "b/x.c", "b/y", "s/q.h", "zz"} {
			ps[joined(pkg, s)] = r.Intn(3) == 0
		}
		for _, x := range p.targets {
			for _, s := range x.Srcs {
				if !strings.Contains(s, "*") {
					ps[joined(pkg, s)] = true
				}
			}
		}
	}
	var l []api.File
	for _, p := range slices.Sorted(maps.Keys(ps)) {
		if ps[p] {
			l = append(l, api.File{Path: p, Blob: r.Intn(5), Size: r.Intn(5)})
		}
	}
	slices.SortFunc(l, func(a, b api.File) int { return byWords(a.Path, b.Path) })
	return l
}

// spoil puts one thing out of order.
func (w *world) spoil(r *rand.Rand, all []api.Label) {
	a := pick(r, all)
	p := w.packs[a.Pkg]
	i := slices.IndexFunc(p.targets, func(x api.Target) bool { return x.Name == a.Name })
	if i < 0 {
		return
	}
	x := &p.targets[i]
	switch r.Intn(7) {
	case 0:
		p.bad, p.at = "target", 6
		if r.Intn(2) == 0 {
			p.bad, p.at = "target a{};", 10
		}
	case 1:
		p.targets = slices.Delete(p.targets, i, i+1)
	case 2:
		w.rest = slices.DeleteFunc(w.rest, func(f api.File) bool { return strings.HasPrefix(f.Path, joined(a.Pkg, "")) && r.Intn(2) == 0 })
	case 3:
		if d := pick(r, all); !slices.Contains(x.Deps, d) {
			x.Deps = append(x.Deps, d)
		}
	case 4, 5:
		x.See = picks(r, r.Intn(3), []string{"//a", "//a/...", "//", "//b", "//a/b/...", "//A"})
	case 6:
		if r.Intn(3) == 0 {
			delete(w.packs, a.Pkg)
			return
		}
	}
	w.packs[a.Pkg] = p
}

func anyLabels(r *rand.Rand, w world) []api.Label {
	var all []api.Label
	for _, pkg := range w.all() {
		for _, x := range w.packs[pkg].targets {
			all = append(all, api.Label{Pkg: pkg, Name: x.Name})
		}
	}
	slices.SortFunc(all, byLabels)
	if len(all) == 0 || r.Intn(30) == 0 {
		all = append(all, api.Label{Pkg: pick(r, packages()), Name: pick(r, names())})
	}
	var l []api.Label
	for range r.Intn(5) {
		l = append(l, pick(r, all))
	}
	return l
}

func TestAnyWorlds(t *testing.T) {
	r := rand.New(rand.NewSource(1311))
	codes := map[api.Errno]int{}
	for i := range 30000 {
		w := anyWorld(r, i%4)
		l := w.snapshot(r)
		labels := anyLabels(r, w)
		want, fault := w.build(l, labels)
		check(t, "P13.2", l, labels, want, fault)
		codes[fault.Code]++
	}
	for _, c := range []api.Errno{api.OK, api.ErrParse, api.ErrMissing, api.ErrCycle, api.ErrSee} {
		if codes[c] < 500 {
			t.Errorf("only %d worlds of the code %d: the worlds say too little", codes[c], c)
		}
	}
}

// TestSmallWorlds: three labels, all edges between them, each seen by all or by none, and there or not.
func TestSmallWorlds(t *testing.T) {
	r := rand.New(rand.NewSource(1312))
	all := labs("a:n a/b:n b:n")
	for bits := range 1 << 15 {
		w := world{packs: map[string]pack{}}
		for i, a := range all {
			x := api.Target{Name: "n"}
			for k, d := range all {
				if bits>>(3*i+k)&1 == 1 {
					x.Deps = append(x.Deps, d)
				}
			}
			if bits>>(9+i)&1 == 1 {
				x.See = []string{"//a/..."}
			}
			if bits>>(12+i)&1 == 1 {
				w.packs[a.Pkg] = pack{targets: []api.Target{x}}
			}
		}
		l := w.snapshot(r)
		for _, labels := range [][]api.Label{all[:1], all[1:2], all[2:], {all[2], all[0]}} {
			want, fault := w.build(l, labels)
			check(t, "P13.2", l, labels, want, fault)
		}
	}
}

// P13.4 and P13.5

// closure are the paths that the build has asked for.
func closure(n []api.Node) []string {
	var ps []string
	for _, x := range n {
		ps = append(ps, joined(x.Label.Pkg, "TARGETS"))
		for _, f := range x.Srcs {
			ps = append(ps, f.Path)
		}
	}
	return ps
}

func TestNodes(t *testing.T) {
	r := rand.New(rand.NewSource(1313))
	for range 5000 {
		w := anyWorld(r, 0)
		l := w.snapshot(r)
		n, f := build.Of(l, anyLabels(r, w))
		if f.Code != 0 {
			continue
		}
		ahead := map[api.Label]bool{}
		for _, x := range n {
			for _, d := range x.Deps {
				if !ahead[d] {
					t.Fatalf("P13.4: the dep %v of %v does not stand ahead: %+v", d, x.Label, n)
				}
			}
			if ahead[x.Label] || !slices.IsSortedFunc(x.Deps, byLabels) {
				t.Fatalf("P13.4: %+v", n)
			}
			ahead[x.Label] = true
			for i, s := range x.Srcs {
				if i > 0 && byWords(x.Srcs[i-1].Path, s.Path) >= 0 || !slices.Contains(l, s) {
					t.Fatalf("P13.4: the sources of %+v", x)
				}
			}
		}
	}
}

func TestLabelsAsSet(t *testing.T) {
	r := rand.New(rand.NewSource(1351))
	for i := range 5000 {
		w := anyWorld(r, i%3)
		l := w.snapshot(r)
		labels := anyLabels(r, w)
		n, f := build.Of(l, labels)
		more := slices.Clone(labels)
		for range r.Intn(4) * len(labels) {
			more = append(more, pick(r, labels))
		}
		r.Shuffle(len(more), func(i, j int) { more[i], more[j] = more[j], more[i] })
		check(t, "P13.5", l, more, n, f)
		if f.Code == 0 && len(n) > 0 {
			check(t, "P13.5", l, append(more, pick(r, n).Label), n, f) // what is reached already
		}
	}
}

// TestPartOfFiles: of the closure's files alone, and of these with some of the others, the build is the same.
func TestPartOfFiles(t *testing.T) {
	r := rand.New(rand.NewSource(1352))
	built := 0
	for i := range 8000 {
		w := anyWorld(r, i%3)
		l := w.snapshot(r)
		labels := anyLabels(r, w)
		n, f := build.Of(l, labels)
		if f.Code != 0 {
			continue
		}
		built++
		need := closure(n)
		least := slices.DeleteFunc(slices.Clone(l), func(f api.File) bool { return !slices.Contains(need, f.Path) })
		some := slices.DeleteFunc(slices.Clone(l), func(f api.File) bool { return !slices.Contains(need, f.Path) && r.Intn(2) == 0 })
		check(t, "P13.5", least, labels, n, api.Fault{})
		check(t, "P13.5", some, labels, n, api.Fault{})
	}
	if built < 2000 {
		t.Errorf("only %d builds: the worlds say too little", built)
	}
}

// TestPlaysNoPart: files that no reached label asks for, bad manifests too, are put in, changed, taken away.
func TestPlaysNoPart(t *testing.T) {
	r := rand.New(rand.NewSource(1353))
	for i := range 5000 {
		w := anyWorld(r, i%3)
		l := w.snapshot(r)
		labels := anyLabels(r, w)
		n, f := build.Of(l, labels)
		asked := map[string]bool{}
		for _, a := range w.reached(labels) {
			asked[joined(a.Pkg, "TARGETS")] = true
		}
		more := slices.Clone(l)
		blocked := slices.ContainsFunc(l, func(x api.File) bool { return strings.HasPrefix(x.Path, "TARGETS/") })
		for _, p := range []string{"o/TARGETS", "o/x.c", "a/b/o/TARGETS", "b/s/TARGETS", "a/TARGETS", "TARGETS", "ab/TARGETS", "A/TARGETS"} {
			switch {
			case asked[p] || p == "TARGETS" && blocked || r.Intn(2) == 0:
			case base(p) == "TARGETS":
				more = with(more, p+":"+pick(r, []string{"target", ";", "target n { }", ""}))
			default:
				more = with(more, p)
			}
		}
		more = slices.DeleteFunc(more, func(x api.File) bool {
			return base(x.Path) == "TARGETS" && !asked[x.Path] && r.Intn(4) == 0
		})
		check(t, "P13.5", more, labels, n, f)
	}
}

// P13.6

var (
	markFile  = api.File{Path: "mark", Text: "mark", Blob: -1, Size: -1}
	markLabel = api.Label{Pkg: "mark", Name: "mark"}
)

func withRoom[T any](items []T, mark T) (list, whole []T) {
	whole = append(slices.Clone(items), mark, mark, mark, mark)
	return whole[:len(items)], whole
}

func fill[T any](l []T, mark T) {
	for i := range l[:cap(l)] {
		l[:cap(l)][i] = mark
	}
}

func filled[T comparable](l []T, mark T) bool {
	return !slices.ContainsFunc(l[:cap(l)], func(x T) bool { return x != mark })
}

func TestWhatIsHandedInStays(t *testing.T) {
	r := rand.New(rand.NewSource(1361))
	for i := range 5000 {
		w := anyWorld(r, i%4)
		l, wholeL := withRoom(w.snapshot(r), markFile)
		labels, wholeT := withRoom(anyLabels(r, w), markLabel)
		wasL, wasT := slices.Clone(wholeL), slices.Clone(wholeT)
		build.Of(l, labels)
		if !slices.Equal(wholeL, wasL) || !slices.Equal(wholeT, wasT) {
			t.Fatalf("P13.6: Of(%+v, %v) changed what was handed in, or the room behind it", l, labels)
		}
	}
}

// lists are all of an answer, with their spare room.
func lists(n []api.Node, f api.Fault) (srcs [][]api.File, deps [][]api.Label) {
	for _, x := range n {
		srcs, deps = append(srcs, x.Srcs), append(deps, x.Deps)
	}
	return srcs, append(deps, f.Circle)
}

// TestAnswersAreNew: two answers and what was handed in are written over, one list after the other, and none shows in another.
func TestAnswersAreNew(t *testing.T) {
	r := rand.New(rand.NewSource(1362))
	for i := range 5000 {
		w := anyWorld(r, i%4)
		l, wholeL := withRoom(w.snapshot(r), markFile)
		labels, wholeT := withRoom(anyLabels(r, w), markLabel)
		want, fault := w.build(l, labels)
		n, f := build.Of(l, labels)
		m, g := build.Of(l, labels)
		fill(wholeL, markFile)
		fill(wholeT, markLabel)
		if !sameNodes(n, want) || !sameFault(f, fault) {
			t.Fatalf("P13.6: an answer shares memory with what was handed in: %+v, %+v", n, f)
		}
		srcs, deps := lists(n, f)
		for k := range srcs {
			fill(srcs[k], api.File{Path: fmt.Sprint(k)})
		}
		for k := range deps {
			fill(deps[k], api.Label{Pkg: fmt.Sprint(k)})
		}
		for k := range srcs {
			if !filled(srcs[k], api.File{Path: fmt.Sprint(k)}) {
				t.Fatalf("P13.6: two lists of one answer share memory")
			}
		}
		for k := range deps {
			if !filled(deps[k], api.Label{Pkg: fmt.Sprint(k)}) {
				t.Fatalf("P13.6: two lists of one answer share memory")
			}
		}
		for k := range n[:cap(n)] {
			n[:cap(n)][k] = api.Node{Label: markLabel}
		}
		if !sameNodes(m, want) || !sameFault(g, fault) || !filled(wholeL, markFile) || !filled(wholeT, markLabel) {
			t.Fatalf("P13.6: two answers share memory: %+v, %+v, want %+v, %+v", m, g, want, fault)
		}
	}
}
