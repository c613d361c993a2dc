package impact_test

import (
	"fmt"
	"math"
	"slices"
	"strings"
	"testing"

	"copse/api"
	"copse/build"
	"copse/impact"
)

// lab is the label of a text "a/b:n"; labs those of a text with blanks between.
func lab(text string) api.Label {
	pkg, name, _ := strings.Cut(text, ":")
	return api.Label{Pkg: pkg, Name: name}
}

func labs(text string) []api.Label {
	var l []api.Label
	for _, w := range strings.Fields(text) {
		l = append(l, lab(w))
	}
	return l
}

// files are a snapshot: each word is a path; a manifest's text stands behind its path and a colon.
func files(words ...string) []api.File {
	var l []api.File
	for i, w := range words {
		p, text, isText := strings.Cut(w, ":")
		f := api.File{Path: p, Blob: 100 + i, Size: 7 * i}
		if isText {
			f = api.File{Path: p, Text: text, Size: len(text)}
		}
		l = append(l, f)
	}
	slices.SortFunc(l, byFiles)
	return l
}

// without leaves files out, with puts some in or in their places.
func without(l []api.File, ps ...string) []api.File {
	return slices.DeleteFunc(slices.Clone(l), func(f api.File) bool { return slices.Contains(ps, f.Path) })
}

func with(l []api.File, words ...string) []api.File {
	more := files(words...)
	for _, f := range more {
		l = without(l, f.Path)
	}
	l = append(l, more...)
	slices.SortFunc(l, byFiles)
	return l
}

func pathsOf(l []api.File) []string {
	var ps []string
	for _, f := range l {
		ps = append(ps, f.Path)
	}
	return ps
}

// has holds Labels against what is wanted, tells holds Of.
func has(t *testing.T, l []api.File, want []api.Label) {
	t.Helper()
	if got, e := impact.Labels(l); e != api.OK || !slices.Equal(got, want) {
		t.Fatalf("P24.1: Labels(%+v):\n%v, %d, want\n%v", l, got, e, want)
	}
}

func tells(t *testing.T, promise string, l []api.File, paths []string, want []api.Label) {
	t.Helper()
	if got, e := impact.Of(l, paths); e != api.OK || !slices.Equal(got, want) {
		t.Fatalf("%s: Of(%+v, %q):\n%v, %d, want\n%v", promise, l, paths, got, e, want)
	}
}

// The examples of the chapter.

func example() []api.File {
	return files(
		"a/TARGETS:target x { srcs = [f] deps = [//b:y] }", "a/f",
		"b/TARGETS:target y { srcs = [*.c] see = [public] } target z { srcs = [none] }", "b/1.c", "q")
}

func TestExample1(t *testing.T) {
	l := example()
	has(t, l, labs("a:x b:y b:z"))
	tells(t, "P24.2", l, []string{"b/1.c"}, labs("a:x b:y"))
	tells(t, "P24.2", l, []string{"a/f"}, labs("a:x"))
	tells(t, "P24.2", l, []string{"q", "b/2.c"}, nil)
	tells(t, "P24.2", l, []string{"b/TARGETS"}, labs("a:x b:y"))
	if _, f := build.Of(l, labs("b:z")); f.Code != api.ErrMissing {
		t.Errorf("b:z has a build: %+v", f)
	}
}

func TestExample2(t *testing.T) {
	l := with(example(), "b/2.c")
	has(t, l, labs("a:x b:y b:z"))
	tells(t, "P24.2", l, []string{"b/2.c"}, labs("a:x b:y"))
	tells(t, "P24.2", l, []string{"b/1.c"}, labs("a:x b:y"))
}

// P24.1

func TestLabels(t *testing.T) {
	deep := strings.TrimSuffix(strings.Repeat("d/", api.MaxDepth-1), "/")
	long := strings.Repeat(strings.Repeat("b", 27)+"/", 3) + strings.Repeat("b", api.MaxPath-3*28-8)
	for _, c := range []struct {
		l    []api.File
		want string
	}{
		{nil, ""},
		{[]api.File{}, ""},
		{files("a", "b/c", "d/e/f"), ""},
		{files("TARGETS:target a { }"), ":a"},
		{files("TARGETS:target a { } target b { srcs = [a] }", "x"), ":a :b"},
		{files("p/TARGETS:target a { }"), "p:a"},
		{files("p/q/TARGETS:target a { see = [//p] }", "p/q/r", "p/s"), "p/q:a"},
		{files("TARGETS:target a { }", "p/TARGETS:target a { }", "p/q/TARGETS:target a { }", "r/TARGETS:target b { }"), ":a p:a p/q:a r:b"},
		{files(deep + "/TARGETS:target a { }"), deep + ":a"},
		{files(long + "/TARGETS:target " + strings.Repeat("n", api.MaxComp) + " { }"), long + ":" + strings.Repeat("n", api.MaxComp)},
		// Names that are near a manifest's.
		{files("TARGETS.c", "aTARGETS", "b-TARGETS", "p/targets", "p/xTARGETS", "p/TARGETS-"), ""},
		{files("TARGETS/a", "p/TARGETS/x"), ""},
		{files("TARGETS/TARGETS:target n { }", "p/TARGETS/TARGETS:target n { }"), "TARGETS:n p/TARGETS:n"},
		// What is wrong with a target, but not with its manifest.
		{files("p/TARGETS:target a { srcs = [no] deps = [:a, :no, //no:no, //q:n] see = [//no] }", "q/TARGETS:target n { }"), "p:a q:n"},
		// Manifests without a target.
		{files("TARGETS:"), ""},
		{files("TARGETS:# none\n", "p/TARGETS: \t\r\n", "q/TARGETS:target n { }"), "q:n"},
	} {
		has(t, c.l, labs(c.want))
	}
}

// TestLabelsUnparsed: of manifests that don't parse there are none, of those beside them all.
func TestLabelsUnparsed(t *testing.T) {
	good := []string{"TARGETS:target a { }", "m/TARGETS:target a { } target b { }", "p/q/TARGETS:target c { }"}
	for _, text := range []string{
		"target", "target a", "target a {", "bad", ";", "\x00", "target b { };", "target a { } target a { }", "target a { } x",
		"target a { srcs = [TARGETS] }", "target a { srcs = [x, x] }", "target b { } target a { deps = [//] }", "target a { see = [a] }",
		strings.Repeat(" ", api.MaxManifest+1), "target a { }" + strings.Repeat("#", api.MaxManifest),
	} {
		l := with(files(good...), "n/TARGETS:"+text)
		has(t, l, labs(":a m:a m:b p/q:c"))
		has(t, with(l, "p/TARGETS:"+text, "p/q/r/TARGETS:"+text), labs(":a m:a m:b p/q:c"))
		has(t, with(l, "TARGETS:"+text), labs("m:a m:b p/q:c"))
		has(t, with(l, "TARGETS:"+text, "m/TARGETS:"+text, "p/q/TARGETS:"+text), nil)
		tells(t, "P24.2", l, []string{"n/TARGETS"}, nil)
		tells(t, "P24.2", l, []string{"n/TARGETS", "m/TARGETS"}, labs("m:a m:b"))
	}
	// Whether it parses hangs on the package.
	text := ":target a { srcs = [d/x] deps = [:b, //p:b] }"
	deep := strings.TrimSuffix(strings.Repeat("d/", api.MaxDepth-1), "/")
	has(t, files("TARGETS"+text), labs(":a"))
	has(t, files("p/TARGETS"+text), nil)
	has(t, files("q/TARGETS"+text, "q/p/TARGETS"+text), labs("q:a q/p:a"))
	has(t, files(deep+"/TARGETS"+text), nil)
	has(t, files(deep[2:]+"/TARGETS"+text), labs(deep[2:]+":a"))
}

// TestLabelsRise: piece by piece, by bytes, whatever the order in the manifests and of their paths.
func TestLabelsRise(t *testing.T) {
	text := ":target b { } target B { } target a.b { } target a { } target a-b { } target _ { } target 0 { } target a0 { } target -a { } target .a { }"
	names := strings.Fields("-a .a 0 B _ a a-b a.b a0 b")
	pkgs := strings.Fields("A B a a/B a/TARGETS.d a/U a/b a-b a.b a0 b")
	words, want := []string{"TARGETS" + text}, []api.Label(nil)
	for _, n := range names {
		want = append(want, api.Label{Name: n})
	}
	for _, p := range pkgs {
		words = append(words, p+"/TARGETS"+text)
		for _, n := range names {
			want = append(want, api.Label{Pkg: p, Name: n})
		}
	}
	l := files(words...)
	has(t, l, want)
	tells(t, "P24.2", l, pathsOf(l), want)
	tells(t, "P24.2", l, []string{"b/TARGETS", "a/TARGETS", "a/B/TARGETS", "TARGETS"}, slices.DeleteFunc(want, func(a api.Label) bool {
		return !slices.Contains([]string{"", "a", "a/B", "b"}, a.Pkg)
	}))
}

// TestLabelsMost: as many targets as a manifest may have, and one more.
func TestLabelsMost(t *testing.T) {
	var text strings.Builder
	var want []api.Label
	for n := range api.MaxTargets {
		fmt.Fprintf(&text, "target t%02d { }\n", api.MaxTargets-1-n)
		want = append(want, lab(fmt.Sprintf("p:t%02d", n)))
	}
	room := strings.Repeat(" ", api.MaxManifest-text.Len())
	has(t, files("p/TARGETS:"+text.String()), want)
	has(t, files("p/TARGETS:"+text.String()+room), want)
	has(t, files("p/TARGETS:"+text.String()+room+" "), nil)
	has(t, files("p/TARGETS:"+text.String()+"target u { }"), nil)
	tells(t, "P24.2", files("p/TARGETS:"+text.String()), []string{"p/TARGETS"}, want)
}

// TestNoSnapshot: of both functions, whatever the paths.
func TestNoSnapshot(t *testing.T) {
	many := make([]api.File, api.MaxFiles+1)
	for i := range many {
		many[i].Path = fmt.Sprintf("f%04d", i)
	}
	for code, lists := range map[api.Errno][][]api.File{
		api.ErrPath: {
			{{Path: ""}}, {{}, {}}, {{Path: "/"}}, {{Path: "a//b"}}, {{Path: "a/"}}, {{Path: "/a"}}, {{Path: "a/../b"}}, {{Path: "a\xff"}}, {{Path: "..."}},
			{{Path: strings.Repeat("a/", api.MaxDepth) + "a"}}, {{Path: strings.Repeat("a", api.MaxComp+1)}}, {{Path: "/TARGETS", Text: "bad", Size: 3}},
			{{Path: "b"}, {Path: "a"}, {Path: "c/"}}, {{Path: "a", Size: -1}, {Path: "."}}, append(example(), api.File{Path: ".."}), slices.Concat(many, []api.File{{}}),
		},
		api.ErrSnap: {
			{{Path: "b"}, {Path: "a"}}, {{Path: "a"}, {Path: "a"}}, {{Path: "a"}, {Path: "a/b"}}, {{Path: "a-b"}, {Path: "a/b"}}, {{Path: "a", Text: "x", Size: 1}},
			{{Path: "a", Blob: -1}}, {{Path: "a", Blob: api.MaxBlob + 1}}, {{Path: "a", Size: -1}}, {{Path: "a", Size: api.MaxSize + 1}}, {{Path: "a", Size: math.MinInt}},
			{{Path: "TARGETS", Text: "target a{}", Size: 9}}, {{Path: "TARGETS", Text: "bad", Size: 3, Blob: 1}},
			append(example(), api.File{Path: "a/f"}), many,
		},
	} {
		for _, l := range lists {
			if got, e := impact.Labels(l); e != code || len(got) != 0 {
				t.Errorf("P24.1: Labels(%+v): %v, %d, want %d", l[:min(len(l), 9)], got, e, code)
			}
			for _, paths := range [][]string{nil, {}, {""}, {"a"}, {"a/f", "TARGETS"}, pathsOf(l)} {
				if got, e := impact.Of(l, paths); e != code || len(got) != 0 {
					t.Errorf("P24.1: Of(%+v, %q): %v, %d, want %d", l[:min(len(l), 9)], paths[:min(len(paths), 9)], got, e, code)
				}
			}
		}
	}
	has(t, many[1:], nil)
	tells(t, "P24.2", many[1:], pathsOf(many), nil)
}

// P24.2

// grove has chains and a diamond: all needs lib and bin, bin needs lib, both need base.
func grove() []api.File {
	return files(
		"TARGETS:target all { srcs = [r] deps = [//b:bin, //a:lib] } target alone { srcs = [*.md, r] }", "r", "x.md",
		"a/TARGETS:target test { srcs = [t.c] deps = [:lib] } target lib { srcs = [l.c, h/*.h] deps = [//c/d:base] see = [//, //b/...] }",
		"a/l.c", "a/t.c", "a/h/1.h", "a/h/2.c", "a/h/i/3.h",
		"b/TARGETS:target bin { srcs = [m.c] deps = [//a:lib, //c/d:base] see = [public] }", "b/m.c",
		"c/d/TARGETS:target other { srcs = [o] } target base { srcs = [z, *.c] see = [public] }", "c/d/1.c", "c/d/2.h", "c/d/o", "c/d/z",
		"c/e", "q/w", "q/1.c", "s/TARGETS:")
}

// reached is what grove's paths reach, by hand.
func reached() map[string]string {
	lib := ":all a:lib a:test b:bin"
	return map[string]string{
		"r": ":all :alone", "x.md": ":alone", "TARGETS": ":all :alone",
		"a/TARGETS": lib, "a/l.c": lib, "a/t.c": "a:test", "a/h/1.h": lib, "a/h/2.c": "", "a/h/i/3.h": "",
		"b/TARGETS": ":all b:bin", "b/m.c": ":all b:bin",
		"c/d/TARGETS": lib + " c/d:base c/d:other", "c/d/1.c": lib + " c/d:base", "c/d/2.h": "", "c/d/o": "c/d:other", "c/d/z": lib + " c/d:base",
		"c/e": "", "q/w": "", "q/1.c": "", "s/TARGETS": "",
		// No files: some that a source would name, directories, and texts that are no paths.
		"c/d/3.c": "", "a/h/3.h": "", "y.md": "", "q/TARGETS": "", "z": "", "1.c": "", "a": "", "a/h": "", "c": "", "c/d": "",
		"": "", "/": "", "/r": "", "r/": "", "./r": "", "a//l.c": "", "a/l.c/": "", "a/../r": "", "..": "", "...": "", "R": "", "*.md": "", "a/h/*.h": "",
		"//a:lib": "", "a:lib": "", "lib": "", "\xff": "", "r\x00": "", " r": "", "a\\l.c": "", "c/d/TARGETS/": "", strings.Repeat("a/", 5000): "",
	}
}

func TestEachPath(t *testing.T) {
	l := grove()
	want := labs(":all :alone a:lib a:test b:bin c/d:base c/d:other")
	has(t, l, want)
	for p, names := range reached() {
		tells(t, "P24.2", l, []string{p}, labs(names))
		tells(t, "P24.2", l, []string{p, p, p}, labs(names))
	}
	for _, f := range l {
		if _, known := reached()[f.Path]; !known {
			t.Errorf("%q is not among the paths: the test says too little", f.Path)
		}
	}
	tells(t, "P24.2", l, nil, nil)
	tells(t, "P24.2", l, []string{}, nil)
	tells(t, "P24.2", l, pathsOf(l), want)
}

// TestPathsTogether: two and three paths, in each order and twice, reach what one of them reaches.
func TestPathsTogether(t *testing.T) {
	l, by := grove(), reached()
	want := func(ps ...string) []api.Label {
		var all []api.Label
		for _, p := range ps {
			all = append(all, labs(by[p])...)
		}
		slices.SortFunc(all, byLabels)
		return slices.Compact(all)
	}
	for p := range by {
		for q := range by {
			tells(t, "P24.2", l, []string{p, q}, want(p, q))
			tells(t, "P24.2", l, []string{q, p, q}, want(p, q))
		}
		for _, rest := range [][]string{{"r", "a/t.c"}, {"c/d/o", "x.md"}, {"b/m.c", "q/w"}} {
			tells(t, "P24.2", l, []string{rest[0], p, rest[1]}, want(p, rest[0], rest[1]))
			tells(t, "P24.2", l, []string{rest[1], rest[0], rest[1], p}, want(p, rest[0], rest[1]))
		}
	}
	many := slices.Repeat([]string{"q/w", "no", "c/d/o", "\xff", "c/d/o"}, 20000)
	tells(t, "P24.2", l, many, labs("c/d:other"))
	tells(t, "P24.2", l, append(many, "x.md"), labs(":alone c/d:other"))
}

// TestOtherPackagesFiles: a source may lie in another package's directory, whose manifest is not asked for.
func TestOtherPackagesFiles(t *testing.T) {
	l := files("TARGETS:target a { srcs = [p/x, p/*.c] }", "p/TARGETS:target n { srcs = [x, q/y] } target m { srcs = [*] }", "p/x", "p/y.c",
		"p/q/TARGETS:bad", "p/q/y", "p/q/z")
	for p, want := range map[string]string{
		"TARGETS": ":a", "p/TARGETS": "p:m p:n", "p/x": ":a p:m p:n", "p/y.c": ":a p:m", "p/q/TARGETS": "", "p/q/y": "p:n", "p/q/z": "",
	} {
		tells(t, "P24.2", l, []string{p}, labs(want))
	}
}

// noBuilds is a snapshot of some labels that have a build and many that have none, by their faults.
func noBuilds() ([]api.File, map[api.Errno]string) {
	return files(
			"bad/TARGETS:target x { srcs = [f] } target", "bad/f",
			"p/TARGETS:target fine { srcs = [f] }\ntarget also { deps = [:fine] }\n"+
				"target parse { srcs = [f] deps = [//bad:x] } target parsefar { deps = [:parse, :fine] srcs = [f] }\n"+
				"target nopkg { srcs = [f] deps = [//no:no] } target noname { srcs = [f] deps = [:no, :fine] } target nosource { srcs = [f, lost, *] }\n"+
				"target nofar { srcs = [f] deps = [:fine, :nosource] }\n"+
				"target self { srcs = [f] deps = [:self] } target c1 { srcs = [f] deps = [:c2] } target c2 { srcs = [f] deps = [:c3] } target c3 { deps = [:c1, :fine] }\n"+
				"target intoc { srcs = [f] deps = [:fine, :c2] }\n"+
				"target see { srcs = [f] deps = [//s:hidden] } target seefar { srcs = [f] deps = [:see] } target seen { srcs = [f] deps = [//s:shown] }", "p/f",
			"s/TARGETS:target hidden { srcs = [f] see = [//q, //p/q/...] } target shown { deps = [:hidden] see = [//p] }", "s/f"),
		map[api.Errno]string{
			api.OK:         "p:also p:fine p:seen s:hidden s:shown",
			api.ErrParse:   "p:parse p:parsefar",
			api.ErrMissing: "p:nofar p:noname p:nopkg p:nosource",
			api.ErrCycle:   "p:c1 p:c2 p:c3 p:intoc p:self",
			api.ErrSee:     "p:see p:seefar",
		}
}

func TestNoBuild(t *testing.T) {
	l, by := noBuilds()
	var all []api.Label
	for code, names := range by {
		for _, a := range labs(names) {
			all = append(all, a)
			if _, f := build.Of(l, []api.Label{a}); f.Code != code {
				t.Errorf("the build of %v: %+v, want %d", a, f, code)
			}
		}
	}
	slices.SortFunc(all, byLabels)
	has(t, l, all)
	tells(t, "P24.2", l, pathsOf(l), labs(by[api.OK]))
	for p, want := range map[string]string{
		"p/f": "p:also p:fine p:seen", "p/TARGETS": "p:also p:fine p:seen", "s/f": "p:seen s:hidden s:shown", "s/TARGETS": "p:seen s:hidden s:shown",
		"bad/TARGETS": "", "bad/f": "", "p/lost": "", "no/TARGETS": "",
	} {
		tells(t, "P24.2", l, []string{p}, labs(want))
	}
}

// TestFaultsMended: what had no build is told, once it has one, and not ahead of that.
func TestFaultsMended(t *testing.T) {
	l, by := noBuilds()
	fine := by[api.OK]
	mended := func(l []api.File, more string) {
		t.Helper()
		want := append(labs(fine), labs(more)...)
		slices.SortFunc(want, byLabels)
		tells(t, "P24.2", l, pathsOf(l), want)
	}
	mended(with(l, "p/lost"), "p:nosource p:nofar")
	mended(with(l, "no/TARGETS:target no { see = [//p] }"), "p:nopkg no:no")
	mended(with(l, "no/TARGETS:target no { see = [//p/x] }"), "no:no")
	mended(with(l, "bad/TARGETS:target x { srcs = [f] see = [//p/...] }"), "bad:x p:parse p:parsefar")
	mended(with(l, "bad/TARGETS:target x { srcs = [g] see = [//p/...] }"), "")
	mended(with(l, "s/TARGETS:target hidden { srcs = [f] see = [public] } target shown { deps = [:hidden] see = [//p] }"), "p:see p:seefar")
	// Mended, what is reached is told by the file that mended it.
	tells(t, "P24.2", with(l, "p/lost"), []string{"p/lost"}, labs("p:nofar p:nosource"))
	tells(t, "P24.2", with(l, "no/TARGETS:target no { see = [//p] }"), []string{"no/TARGETS"}, labs("no:no p:nopkg"))
}
