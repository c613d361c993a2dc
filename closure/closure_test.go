package closure_test

import (
	"fmt"
	"iter"
	"maps"
	"math/rand"
	"runtime/debug"
	"slices"
	"strings"
	"testing"

	"copse/api"
	"copse/build"
	"copse/closure"
	"copse/paths"
	"copse/snap"
)

// lab is the label of a text "a/b:n"; labs those of a text with blanks between.
func lab(text string) api.Label {
	pkg, name, _ := strings.Cut(text, ":")
	return api.Label{Pkg: pkg, Name: name}
}

func labs(text string) []api.Label {
	var l []api.Label
	for _, w := range strings.Fields(text) {
		l = append(l, lab(w))
	}
	return l
}

// files are a snapshot: each word is a path; a manifest's text stands behind its path and a colon.
func files(words ...string) []api.File {
	var l []api.File
	for i, w := range words {
		p, text, _ := strings.Cut(w, ":")
		f := api.File{Path: p, Text: text, Size: len(text)}
		if base(p) != "TARGETS" {
			f = api.File{Path: p, Blob: 100 + i, Size: 7 * i}
		}
		l = append(l, f)
	}
	slices.SortFunc(l, byFiles)
	return l
}

// without leaves files out, with puts some in or in their places.
func without(l []api.File, ps ...string) []api.File {
	return slices.DeleteFunc(slices.Clone(l), func(f api.File) bool { return slices.Contains(ps, f.Path) })
}

func with(l []api.File, words ...string) []api.File {
	more := files(words...)
	for _, f := range more {
		l = without(l, f.Path)
	}
	l = append(l, more...)
	slices.SortFunc(l, byFiles)
	return l
}

func pieces(p string) []string {
	if p == "" {
		return nil
	}
	return strings.Split(p, "/")
}

func byWords(p, q string) int { return slices.Compare(pieces(p), pieces(q)) }

func byFiles(a, b api.File) int { return byWords(a.Path, b.Path) }

func byLabels(a, b api.Label) int {
	if c := byWords(a.Pkg, b.Pkg); c != 0 {
		return c
	}
	return strings.Compare(a.Name, b.Name)
}

func base(p string) string { return p[strings.LastIndex(p, "/")+1:] }

func joined(pkg, p string) string {
	if pkg == "" {
		return p
	}
	return pkg + "/" + p
}

func sameNodes(a, b []api.Node) bool {
	return slices.EqualFunc(a, b, func(x, y api.Node) bool {
		return x.Label == y.Label && slices.Equal(x.Srcs, y.Srcs) && slices.Equal(x.Deps, y.Deps)
	})
}

func sameFault(a, b api.Fault) bool {
	return a.Code == b.Code && a.Label == b.Label && a.Other == b.Other && a.Path == b.Path && a.At == b.At && slices.Equal(a.Circle, b.Circle)
}

// check holds both calls against what is wanted.
func check(t *testing.T, promise string, l []api.File, labels []api.Label, want []string, fault api.Fault) {
	t.Helper()
	ps, f := closure.Of(l, labels)
	if !slices.Equal(ps, want) || !sameFault(f, fault) {
		t.Fatalf("%s: Of(%+v, %v):\n%q, %+v, want\n%q, %+v", promise, l, labels, ps, f, want, fault)
	}
	each := closure.Each(l, labels)
	if each == nil {
		t.Fatalf("P14.2: Each(%+v, %v) is nil", l, labels)
	}
	if ps := slices.Collect(each); !slices.Equal(ps, want) {
		t.Fatalf("P14.2: Each(%+v, %v):\n%q, want\n%q", l, labels, ps, want)
	}
}

func asks(t *testing.T, l []api.File, labels, want string) {
	t.Helper()
	check(t, "P14.1", l, labs(labels), strings.Fields(want), api.Fault{})
}

// fails: the fault is the one that is wanted, and the build's own.
func fails(t *testing.T, l []api.File, labels []api.Label, fault api.Fault) {
	t.Helper()
	check(t, "P14.1", l, labels, nil, fault)
	if _, f := build.Of(l, labels); !sameFault(f, fault) {
		t.Fatalf("P14.1: the build's fault is %+v, the closure's %+v", f, fault)
	}
}

// The examples of the chapter.

func example() []api.File {
	return files(
		"TARGETS:target a { srcs = [a.c, x/*.c] deps = [//x:b] }", "a.c",
		"x/TARGETS:target b { srcs = [*.h] see = [public] }", "x/a.c", "x/b.h", "y/z")
}

func TestExample1(t *testing.T) {
	asks(t, example(), ":a", "TARGETS a.c x/TARGETS x/a.c x/b.h")
	asks(t, example(), "x:b", "x/TARGETS x/b.h")
}

func TestExample2(t *testing.T) {
	l := example()
	fails(t, l, labs("y:a"), api.Fault{Code: api.ErrMissing, Label: lab("y:a")})
	for range closure.Each(l, labs("y:a")) {
		t.Error("P14.2: Each gives a path where there is a fault")
	}
	check(t, "P14.1", l, nil, nil, api.Fault{})
	check(t, "P14.1", l, []api.Label{}, nil, api.Fault{})
	check(t, "P14.1", nil, nil, nil, api.Fault{})
}

// P14.1: the faults.

func TestNoSnapshot(t *testing.T) {
	many := make([]api.File, api.MaxFiles+1)
	for i := range many {
		many[i].Path = fmt.Sprintf("f%04d", i)
	}
	for _, c := range []struct {
		l    []api.File
		code api.Errno
	}{
		{[]api.File{{Path: ""}}, api.ErrPath},
		{[]api.File{{Path: "a//b"}}, api.ErrPath},
		{[]api.File{{Path: "b"}, {Path: "a"}, {Path: "a\xff"}}, api.ErrPath},
		{[]api.File{{Path: strings.Repeat("a/", api.MaxDepth) + "a"}}, api.ErrPath},
		{[]api.File{{Path: "b"}, {Path: "a"}}, api.ErrSnap},
		{[]api.File{{Path: "a"}, {Path: "a"}}, api.ErrSnap},
		{[]api.File{{Path: "a"}, {Path: "a/b"}}, api.ErrSnap},
		{[]api.File{{Path: "TARGETS", Text: "target a{}", Size: 9}}, api.ErrSnap},
		{[]api.File{{Path: "a/x", Blob: -1}}, api.ErrSnap},
		{many, api.ErrSnap},
	} {
		for _, labels := range [][]api.Label{nil, labs(":a"), {{}}, {{Pkg: "a/", Name: "a"}}} {
			fails(t, c.l, labels, api.Fault{Code: c.code})
		}
	}
	check(t, "P14.1", many[1:], nil, nil, api.Fault{})
	fails(t, many[1:], labs("f:a"), api.Fault{Code: api.ErrMissing, Label: lab("f:a")})
}

func TestNoLabel(t *testing.T) {
	for _, a := range []api.Label{
		{}, {Pkg: "x"}, {Pkg: "/x", Name: "b"}, {Pkg: "y/", Name: "a"}, {Pkg: "x/..", Name: "b"}, {Pkg: "x", Name: "..."},
		{Pkg: "x", Name: "\xff"}, {Pkg: "x", Name: strings.Repeat("n", api.MaxComp+1)}, {Pkg: "//x", Name: "b"}, {Pkg: "x", Name: "a/b"},
	} {
		for _, l := range [][]api.File{nil, example(), with(example(), "TARGETS:bad")} {
			fails(t, l, []api.Label{a}, api.Fault{Code: api.ErrLabel})
			fails(t, l, append(labs(":a x:b"), a), api.Fault{Code: api.ErrLabel})
			fails(t, l, append([]api.Label{a}, labs(":a y:a")...), api.Fault{Code: api.ErrLabel})
		}
	}
}

func TestFaults(t *testing.T) {
	l := example()
	root, x := lab(":a"), lab("x:b")
	for _, c := range []struct {
		l     []api.File
		fault api.Fault
	}{
		{with(l, "x/TARGETS:target"), api.Fault{Code: api.ErrParse, Path: "x/TARGETS", At: 6}},
		{with(l, "TARGETS:;"), api.Fault{Code: api.ErrParse, Path: "TARGETS"}},
		{with(l, "TARGETS:target a{ srcs = [TARGETS] }"), api.Fault{Code: api.ErrParse, Path: "TARGETS", At: 18}},
		{without(l, "TARGETS"), api.Fault{Code: api.ErrMissing, Label: root}},
		{without(l, "x/TARGETS"), api.Fault{Code: api.ErrMissing, Label: x}},
		{with(l, "x/TARGETS:target c { }"), api.Fault{Code: api.ErrMissing, Label: x}},
		{without(l, "a.c"), api.Fault{Code: api.ErrMissing, Label: root, Path: "a.c"}},
		{with(l, "x/TARGETS:target b { srcs = [z, y/q] see = [public] }"), api.Fault{Code: api.ErrMissing, Label: x, Path: "x/y/q"}},
		{with(l, "x/TARGETS:target b { deps = [//:a] see = [public] }"), api.Fault{Code: api.ErrCycle, Circle: []api.Label{root, x}}},
		{with(l, "x/TARGETS:target b { deps = [:b] }"), api.Fault{Code: api.ErrCycle, Circle: []api.Label{x}}},
		{with(l, "x/TARGETS:target b { srcs = [*.h] see = [//y, //x/...] }"), api.Fault{Code: api.ErrSee, Label: root, Other: x}},
	} {
		fails(t, c.l, labs(":a"), c.fault)
		fails(t, c.l, labs(":a x:b :a"), c.fault)
		fails(t, c.l, labs("x:b :a"), c.fault)
	}
	// What is not reached is no fault.
	asks(t, with(l, "TARGETS:;", "y/TARGETS:bad"), "x:b", "x/TARGETS x/b.h")
	asks(t, with(l, "x/TARGETS:target b { srcs = [*.h] }"), "x:b", "x/TARGETS x/b.h")
	asks(t, without(l, "a.c"), "x:b", "x/TARGETS x/b.h")
}

// P14.1: the paths.

func TestLabelsInAnyOrder(t *testing.T) {
	l := example()
	all := "TARGETS a.c x/TARGETS x/a.c x/b.h"
	for _, labels := range []string{":a", ":a :a", ":a x:b", "x:b :a", "x:b :a x:b :a", "x:b x:b :a"} {
		asks(t, l, labels, all)
	}
	asks(t, l, "x:b x:b x:b", "x/TARGETS x/b.h")
}

// TestManifests: of the root and of packages within packages, also without a source; of a package whose targets were not built none.
func TestManifests(t *testing.T) {
	l := files("TARGETS:target a { } target b { deps = [//p/q:n] } target c { deps = [:a] }",
		"p/TARGETS:target n { }", "p/q/TARGETS:target n { see = [public] } target m { deps = [//p/q/r/s:n] }",
		"p/q/r/TARGETS:target n { }", "p/q/r/s/TARGETS:target n { see = [//p/q] }", "p-q/TARGETS:target n { }", "p/q.TARGETS", "x")
	asks(t, l, ":a", "TARGETS")
	asks(t, l, ":c", "TARGETS")
	asks(t, l, ":a :b :c", "TARGETS p/q/TARGETS")
	asks(t, l, "p:n", "p/TARGETS")
	asks(t, l, "p/q:n", "p/q/TARGETS")
	asks(t, l, "p/q:m", "p/q/TARGETS p/q/r/s/TARGETS")
	asks(t, l, "p/q:m p:n :a", "TARGETS p/TARGETS p/q/TARGETS p/q/r/s/TARGETS")
	asks(t, l, "p/q/r:n p-q:n p:n", "p/TARGETS p/q/r/TARGETS p-q/TARGETS")
	asks(t, files("TARGETS/TARGETS:target n { srcs = [*] }", "TARGETS/a"), "TARGETS:n", "TARGETS/TARGETS TARGETS/a")
}

func TestSources(t *testing.T) {
	rest := []string{"x.c", "y.c", "x.h", "d/x.c", "d/y.c", "d/e/x.c", "d/TARGETS:not parsed", "TARGETS.c", "a/x", "a/TARGETS:target n { srcs = [x] }"}
	for _, pkg := range []string{"", "p", "p/q"} {
		for _, c := range []struct{ srcs, want string }{
			{"", ""},
			{"x.c", "x.c"},
			{"y.c, x.c", "x.c y.c"},
			{"*.none, none/*", ""},
			{"x.c, *", "TARGETS.c x.c x.h y.c"},
			{"*, *.c, x*, x.c", "TARGETS.c x.c x.h y.c"},
			{"d/*, x.h", "d/x.c d/y.c x.h"},
			{"d/e/*, d/x.c, *.h", "d/e/x.c d/x.c x.h"},
			{"a/*", "a/x"},
		} {
			manifest := joined(pkg, "TARGETS")
			words := []string{manifest + ":target t { srcs = [" + c.srcs + "] }", "z/z"}
			for _, w := range rest {
				words = append(words, joined(pkg, w))
			}
			want := []string{manifest}
			for _, w := range strings.Fields(c.want) {
				want = append(want, joined(pkg, w))
			}
			slices.SortFunc(want, byWords)
			asks(t, files(words...), pkg+":t", strings.Join(want, " "))
		}
	}
}

// TestSharedSources: a file of several targets comes once, and another package's file without that package's manifest.
func TestSharedSources(t *testing.T) {
	l := files("TARGETS:target a { srcs = [p/x, p/*.c, r] } target b { srcs = [r, p/q/*] deps = [:a] } target c { srcs = [r] }",
		"p/TARGETS:target n { srcs = [x, q/y] } target m { srcs = [x] deps = [:n] }", "p/x", "p/y.c", "r",
		"p/q/TARGETS:target n { srcs = [*] }", "p/q/y", "p/q/z")
	asks(t, l, ":a", "TARGETS p/x p/y.c r")
	asks(t, l, ":b", "TARGETS p/q/y p/q/z p/x p/y.c r")
	asks(t, l, ":a :c", "TARGETS p/x p/y.c r")
	asks(t, l, ":c", "TARGETS r")
	asks(t, l, "p:n", "p/TARGETS p/q/y p/x")
	asks(t, l, "p:m p:n", "p/TARGETS p/q/y p/x")
	asks(t, l, "p/q:n p:m", "p/TARGETS p/q/TARGETS p/q/y p/q/z p/x")
	asks(t, l, ":c p/q:n", "TARGETS p/q/TARGETS p/q/y p/q/z r")
}

// TestOrderOfPaths: piece by piece, not byte by byte.
func TestOrderOfPaths(t *testing.T) {
	l := files("TARGETS:target n { srcs = [a.c, a-b, a/b.c, a/b/c, A/z, ab, a/*] }",
		"a.c", "a-b", "a/b.c", "a/b/c", "A/z", "ab", "a/TARGETS:")
	asks(t, l, ":n", "A/z TARGETS a/b/c a/b.c a-b a.c ab")
	l = files("TARGETS:target n { srcs = [a.c, a/b] }", "a.c", "a/b")
	asks(t, l, ":n", "TARGETS a/b a.c")
	l = files("a/TARGETS:target n { deps = [//a-b:n, //a/B:n, //A:n, //a.b:n] }", "a/B/TARGETS:target n { see = [public] }",
		"A/TARGETS:target n { see = [public] }", "a-b/TARGETS:target n { see = [public] }", "a.b/TARGETS:target n { see = [public] }")
	asks(t, l, "a:n", "A/TARGETS a/B/TARGETS a/TARGETS a-b/TARGETS a.b/TARGETS")
}

// TestLongest: packages as deep and as long as their manifests let them be.
func TestLongest(t *testing.T) {
	for _, pkg := range []string{
		strings.TrimSuffix(strings.Repeat("a/", api.MaxDepth-1), "/"),
		strings.Repeat(strings.Repeat("b", 27)+"/", 3) + strings.Repeat("b", api.MaxPath-3*28-8),
	} {
		l := files(pkg+"/TARGETS:target t { srcs = [x, *y] }", pkg+"/x", pkg+"/zy")
		asks(t, l, pkg+":t", pkg+"/TARGETS "+pkg+"/x "+pkg+"/zy")
	}
}

// TestMostOfAll: as many files and targets as there may be, with little room for calls to nest.
func TestMostOfAll(t *testing.T) {
	defer debug.SetMaxStack(debug.SetMaxStack(1 << 20))
	const packs = api.MaxFiles / 2
	var words, want []string
	for p := range packs {
		var b strings.Builder
		for n := range api.MaxTargets {
			next := fmt.Sprintf(":t%02d", n+1)
			switch {
			case n == api.MaxTargets-1 && p == packs-1:
				next = ""
			case n == api.MaxTargets-1:
				next = fmt.Sprintf("//p%03d:t00", p+1)
			}
			fmt.Fprintf(&b, "target t%02d{deps=[%s]srcs=[f,*]see=[public]}\n", n, next)
		}
		words = append(words, fmt.Sprintf("p%03d/TARGETS:%s", p, b.String()), fmt.Sprintf("p%03d/f", p))
		want = append(want, fmt.Sprintf("p%03d/TARGETS", p), fmt.Sprintf("p%03d/f", p))
	}
	l := files(words...)
	check(t, "P14.1", l, labs("p000:t00"), want, api.Fault{})
	half := packs / 2
	check(t, "P14.1", l, labs(fmt.Sprintf("p%03d:t63", half)), want[2*half:], api.Fault{})
}

// The oracle: DOC.md's words over a world whose manifests are known as targets, not as texts.

type world struct {
	packs map[string]pack
	rest  []api.File // all files but the packages' manifests
}

type pack struct {
	targets []api.Target
	bad     bool // its text does not parse
}

// all are the packages, in one order, so that each run has the same worlds.
func (w world) all() []string { return slices.Sorted(maps.Keys(w.packs)) }

func (w world) snapshot() []api.File {
	l := slices.Clone(w.rest)
	for _, pkg := range w.all() {
		text := ""
		for _, x := range w.packs[pkg].targets {
			text += written(x)
		}
		if w.packs[pkg].bad {
			text += "target"
		}
		l = append(l, api.File{Path: joined(pkg, "TARGETS"), Text: text, Size: len(text)})
	}
	slices.SortFunc(l, byFiles)
	return l
}

func written(x api.Target) string {
	var deps []string
	for _, d := range x.Deps {
		deps = append(deps, "//"+d.Pkg+":"+d.Name)
	}
	return fmt.Sprintf("target %s { srcs = [%s] deps = [%s] see = [%s] }\n",
		x.Name, strings.Join(x.Srcs, ", "), strings.Join(deps, ", "), strings.Join(x.See, ", "))
}

func (w world) target(a api.Label) (api.Target, bool) {
	for _, x := range w.packs[a.Pkg].targets {
		if x.Name == a.Name && !w.packs[a.Pkg].bad {
			return x, true
		}
	}
	return api.Target{}, false
}

// reached grows until nothing new is reached.
func (w world) reached(labels []api.Label) map[api.Label]bool {
	in := map[api.Label]bool{}
	for _, a := range labels {
		in[a] = true
	}
	for grown := true; grown; {
		grown = false
		for _, a := range slices.Collect(maps.Keys(in)) {
			x, _ := w.target(a)
			for _, d := range x.Deps {
				grown = grown || !in[d]
				in[d] = true
			}
		}
	}
	return in
}

// closure asks each file whether something reached has asked for it.
func (w world) closure(l []api.File, labels []api.Label) []string {
	in := w.reached(labels)
	var ps []string
	for _, f := range l {
		for a := range in {
			x, _ := w.target(a)
			if f.Path == joined(a.Pkg, "TARGETS") || slices.ContainsFunc(x.Srcs, func(s string) bool { return names(joined(a.Pkg, s), f.Path) }) {
				ps = append(ps, f.Path)
				break
			}
		}
	}
	return ps
}

// names: does a source, written from the root, name the path?
func names(src, p string) bool {
	ahead, behind, star := strings.Cut(src, "*")
	if !star {
		return src == p
	}
	return base(p) != "TARGETS" && len(p) >= len(ahead)+len(behind) && strings.HasPrefix(p, ahead) && strings.HasSuffix(p, behind) &&
		!strings.Contains(p[len(ahead):len(p)-len(behind)], "/")
}

// Worlds to hold it against.

func pick[T any](r *rand.Rand, l []T) T { return l[r.Intn(len(l))] }

func picks[T comparable](r *rand.Rand, n int, l []T) []T {
	var some []T
	for range n {
		if x := pick(r, l); !slices.Contains(some, x) {
			some = append(some, x)
		}
	}
	return some
}

// anyWorld: harm is how many of its parts are out of order.
func anyWorld(r *rand.Rand, harm int) world {
	w := world{packs: map[string]pack{}}
	var all []api.Label
	for _, pkg := range picks(r, 1+r.Intn(8), []string{"", "a", "A", "a/b", "a/b/c", "a/S", "a-b", "ab", "b", "TARGETS"}) {
		_, root := w.packs[""]
		_, below := w.packs["TARGETS"]
		if root && pkg == "TARGETS" || below && pkg == "" {
			continue // its directory would be the root's manifest
		}
		w.packs[pkg] = pack{}
		for _, name := range picks(r, 1+r.Intn(4), []string{"n", "m", "target", "A"}) {
			all = append(all, api.Label{Pkg: pkg, Name: name})
		}
	}
	r.Shuffle(len(all), func(i, j int) { all[i], all[j] = all[j], all[i] })
	for i, a := range all {
		x := api.Target{Name: a.Name, See: []string{pick(r, []string{"public", "//..."})}}
		x.Srcs = picks(r, r.Intn(4), []string{"x.c", "y.c", "*.c", "*", "b/x.c", "b/*", "s/*.h", "*y.c", "x*", "none*", "T*"})
		if i > 0 {
			x.Deps = picks(r, r.Intn(4), all[:i])
		}
		w.packs[a.Pkg] = pack{targets: append(w.packs[a.Pkg].targets, x)}
	}
	w.rest = anyFiles(r, w)
	for range harm {
		w.spoil(r, all)
	}
	return w
}

func anyFiles(r *rand.Rand, w world) []api.File {
	ps := map[string]bool{}
	for _, pkg := range w.all() {
		for _, s := range []string{"x.c", "y.c", "b/x.c", "b/y", "s/q.h", "zz", "b.c"} {
			ps[joined(pkg, s)] = ps[joined(pkg, s)] || r.Intn(3) == 0
		}
		for _, x := range w.packs[pkg].targets {
			for _, s := range x.Srcs {
				if !strings.Contains(s, "*") {
					ps[joined(pkg, s)] = true
				}
			}
		}
	}
	var l []api.File
	for _, p := range slices.Sorted(maps.Keys(ps)) {
		if ps[p] {
			l = append(l, api.File{Path: p, Blob: r.Intn(5), Size: r.Intn(5)})
		}
	}
	slices.SortFunc(l, byFiles)
	return l
}

// spoil puts one thing out of order.
func (w *world) spoil(r *rand.Rand, all []api.Label) {
	a := pick(r, all)
	p := w.packs[a.Pkg]
	i := slices.IndexFunc(p.targets, func(x api.Target) bool { return x.Name == a.Name })
	if i < 0 {
		return
	}
	x := &p.targets[i]
	switch r.Intn(6) {
	case 0:
		p.bad = true
	case 1:
		p.targets = slices.Delete(p.targets, i, i+1)
	case 2:
		w.rest = slices.DeleteFunc(w.rest, func(f api.File) bool { return strings.HasPrefix(f.Path, joined(a.Pkg, "")) && r.Intn(2) == 0 })
	case 3:
		if d := pick(r, all); !slices.Contains(x.Deps, d) {
			x.Deps = append(x.Deps, d)
		}
	default:
		x.See = picks(r, r.Intn(3), []string{"//a", "//a/...", "//", "//b", "//a/b/...", "//A"})
	}
	w.packs[a.Pkg] = p
}

func anyLabels(r *rand.Rand, w world) []api.Label {
	all := labs("q:n")
	for _, pkg := range w.all() {
		for _, x := range w.packs[pkg].targets {
			all = append(all, api.Label{Pkg: pkg, Name: x.Name})
		}
	}
	if len(all) > 1 && r.Intn(30) > 0 {
		all = all[1:]
	}
	var l []api.Label
	for range r.Intn(5) {
		l = append(l, pick(r, all))
	}
	return l
}

func TestAnyWorlds(t *testing.T) {
	r := rand.New(rand.NewSource(1411))
	codes := map[api.Errno]int{}
	for i := range 10000 {
		w := anyWorld(r, i%4)
		l, labels := w.snapshot(), anyLabels(r, w)
		var want []string
		_, fault := build.Of(l, labels)
		if fault.Code == api.OK {
			want = w.closure(l, labels)
		}
		check(t, "P14.1", l, labels, want, fault)
		codes[fault.Code]++
	}
	for _, c := range []api.Errno{api.OK, api.ErrParse, api.ErrMissing, api.ErrCycle, api.ErrSee} {
		if codes[c] < 300 {
			t.Errorf("only %d worlds of the code %d: the worlds say too little", codes[c], c)
		}
	}
}

// TestSmallWorlds: three targets in two packages, with all sources, all deps on those behind them, and all ways to ask.
func TestSmallWorlds(t *testing.T) {
	all := labs(":n a:m a:n")
	srcs := [][]string{{"a/b", "a.c"}, {"b", "*"}, {"*c", "d/*"}}
	rest := files("a.c", "a/b", "a/bc", "a/d/x", "z")
	for bits := range 1 << 9 {
		w := world{packs: map[string]pack{}, rest: rest}
		for i, a := range all {
			x := api.Target{Name: a.Name, See: []string{"public"}}
			for k := range 2 {
				if bits>>(2*i+k)&1 == 1 {
					x.Srcs = append(x.Srcs, srcs[i][k])
				}
			}
			for k := i + 1; k < 3; k++ {
				if bits>>(5+i+k)&1 == 1 {
					x.Deps = append(x.Deps, all[k])
				}
			}
			w.packs[a.Pkg] = pack{targets: append(w.packs[a.Pkg].targets, x)}
		}
		l := w.snapshot()
		for ask := range 1 << 3 {
			var labels []api.Label
			for i, a := range all {
				if ask>>i&1 == 1 {
					labels = append(labels, a)
				}
			}
			check(t, "P14.1", l, labels, w.closure(l, labels), api.Fault{})
		}
	}
}

// P14.2

// TestEachIsOf: of whatever is handed in, what no build is of too.
func TestEachIsOf(t *testing.T) {
	r := rand.New(rand.NewSource(1421))
	for i := range 5000 {
		w := anyWorld(r, i%4)
		l, labels := w.snapshot(), anyLabels(r, w)
		switch r.Intn(8) {
		case 0:
			r.Shuffle(len(l), func(i, j int) { l[i], l[j] = l[j], l[i] })
		case 1:
			labels = append(labels, api.Label{Pkg: "a", Name: pick(r, []string{"", "\x00", "a/b", "n"})})
		}
		ps, _ := closure.Of(l, labels)
		if got := slices.Collect(closure.Each(l, labels)); !slices.Equal(got, ps) {
			t.Fatalf("P14.2: Each(%+v, %v): %q, want %q", l, labels, got, ps)
		}
	}
}

// TestEachAtTheCall: both lists are written over, ahead of the range and within it; ranges behind it see the same.
func TestEachAtTheCall(t *testing.T) {
	all := strings.Fields("TARGETS a.c x/TARGETS x/a.c x/b.h")
	other := files("TARGETS:target a { }", "b.c", "x/TARGETS:target b { }", "x/c.c", "x/d.h", "y/z")
	spoils := []func(l []api.File, labels []api.Label){
		func(l []api.File, labels []api.Label) { clear(l) },
		func(l []api.File, labels []api.Label) { clear(labels) },
		func(l []api.File, labels []api.Label) { clear(l); clear(labels) },
		func(l []api.File, labels []api.Label) { copy(l, other) },
		func(l []api.File, labels []api.Label) { labels[0] = lab("x:b") },
		func(l []api.File, labels []api.Label) { slices.Reverse(l); labels[0] = lab("y:a") },
		func(l []api.File, labels []api.Label) { l[0].Text = "bad" },
	}
	for i, spoil := range spoils {
		l, labels := example(), labs(":a")
		each := closure.Each(l, labels)
		spoil(l, labels)
		for range 2 {
			if got := slices.Collect(each); !slices.Equal(got, all) {
				t.Errorf("P14.2: written over by %d ahead of the range: %q", i, got)
			}
		}
		l, labels = example(), labs(":a")
		each = closure.Each(l, labels)
		var got []string
		for p := range each {
			spoil(l, labels)
			got = append(got, p)
		}
		if !slices.Equal(got, all) || !slices.Equal(slices.Collect(each), all) {
			t.Errorf("P14.2: written over by %d within the range: %q", i, got)
		}
	}
	// What was a fault at the call stays one, and what had nothing keeps nothing.
	l, labels := example(), labs("y:a")
	each := closure.Each(l, labels)
	labels[0] = lab(":a")
	none := closure.Each(l, labels[:0])
	for p := range each {
		t.Errorf("P14.2: %q, where there was a fault", p)
	}
	for p := range none {
		t.Errorf("P14.2: %q, where there was no label", p)
	}
	l[0].Size++
	each = closure.Each(l, labels)
	l[0].Size--
	for p := range each {
		t.Errorf("P14.2: %q, where there was no snapshot", p)
	}
}

// some gives the first n of an iterator.
func some(each iter.Seq[string], n int) []string {
	var ps []string
	if n == 0 {
		return nil
	}
	for p := range each {
		if ps = append(ps, p); len(ps) == n {
			break
		}
	}
	return ps
}

func TestEachStopped(t *testing.T) {
	l, labels := example(), labs(":a")
	all, _ := closure.Of(l, labels)
	each := closure.Each(l, labels)
	for n := range len(all) + 1 {
		for range 2 {
			if got := some(each, n); !slices.Equal(got, all[:n]) {
				t.Errorf("P14.2: stopped behind %d: %q", n, got)
			}
		}
		if got := slices.Collect(each); !slices.Equal(got, all) {
			t.Errorf("P14.2: again, once stopped behind %d: %q", n, got)
		}
		calls := 0
		each(func(string) bool { calls++; return calls < n })
		if calls != max(n, 1) {
			t.Errorf("P14.2: stopped behind %d, but asked %d times", n, calls)
		}
	}
	first := func() string {
		for p := range each {
			return p
		}
		return ""
	}
	if p, q := first(), first(); p != "TARGETS" || q != "TARGETS" {
		t.Errorf("P14.2: left by a return: %q, %q", p, q)
	}
	func() {
		defer func() { recover() }()
		for range each {
			panic("out of the range")
		}
	}()
	if got := slices.Collect(each); !slices.Equal(got, all) {
		t.Errorf("P14.2: again, once left by a panic: %q", got)
	}
	for range 3 {
		for p := range closure.Each(l, labs("y:a")) {
			t.Errorf("P14.2: %q, where there is a fault", p)
		}
	}
}

// TestEachWithin: one range within another, of one iterator and of two, each at its own place.
func TestEachWithin(t *testing.T) {
	l, labels := example(), labs(":a")
	all, _ := closure.Of(l, labels)
	each := closure.Each(l, labels)
	for _, other := range []iter.Seq[string]{each, closure.Each(l, labels)} {
		var outer []string
		for p := range each {
			outer = append(outer, p)
			n := len(outer)
			if got := some(other, n); !slices.Equal(got, all[:n]) {
				t.Errorf("P14.2: within the range at %d: %q", n, got)
			}
			if got := slices.Collect(other); !slices.Equal(got, all) {
				t.Errorf("P14.2: within the range at %d: %q", n, got)
			}
		}
		if !slices.Equal(outer, all) {
			t.Errorf("P14.2: with another within: %q", outer)
		}
		next, stop := iter.Pull(each)
		late, end := iter.Pull(other)
		for i, p := range all {
			if q, ok := next(); q != p || !ok {
				t.Errorf("P14.2: pulled at %d: %q, %v", i, q, ok)
			}
			if i > 0 {
				if q, ok := late(); q != all[i-1] || !ok {
					t.Errorf("P14.2: pulled beside it at %d: %q, %v", i, q, ok)
				}
			}
		}
		if q, ok := next(); q != "" || ok {
			t.Errorf("P14.2: pulled behind the last: %q, %v", q, ok)
		}
		stop()
		end()
	}
}

// P14.3

var (
	markFile  = api.File{Path: "mark", Text: "mark", Blob: -1, Size: -1}
	markLabel = api.Label{Pkg: "mark", Name: "mark"}
)

func withRoom[T any](items []T, mark T) (list, whole []T) {
	whole = append(slices.Clone(items), mark, mark, mark, mark)
	return whole[:len(items)], whole
}

func fill[T any](l []T, mark T) {
	for i := range l[:cap(l)] {
		l[:cap(l)][i] = mark
	}
}

func filled[T comparable](l []T, mark T) bool {
	return !slices.ContainsFunc(l[:cap(l)], func(x T) bool { return x != mark })
}

func TestWhatIsHandedInStays(t *testing.T) {
	r := rand.New(rand.NewSource(1431))
	for i := range 5000 {
		w := anyWorld(r, i%4)
		l, wholeL := withRoom(w.snapshot(), markFile)
		labels, wholeT := withRoom(anyLabels(r, w), markLabel)
		if r.Intn(10) == 0 {
			r.Shuffle(len(l), func(i, j int) { l[i], l[j] = l[j], l[i] })
		}
		wasL, wasT := slices.Clone(wholeL), slices.Clone(wholeT)
		closure.Of(l, labels)
		for range closure.Each(l, labels) {
		}
		if !slices.Equal(wholeL, wasL) || !slices.Equal(wholeT, wasT) {
			t.Fatalf("P14.3: Of or Each of %+v, %v changed what was handed in, or the room behind it", l, labels)
		}
	}
}

// TestAnswersAreNew: what was handed in and one answer are written over and lengthened, and nothing shows in the others.
func TestAnswersAreNew(t *testing.T) {
	r := rand.New(rand.NewSource(1432))
	circles := 0
	for i := range 5000 {
		w := anyWorld(r, i%4)
		l, wholeL := withRoom(w.snapshot(), markFile)
		labels, wholeT := withRoom(anyLabels(r, w), markLabel)
		_, fault := build.Of(l, labels)
		var want []string
		if fault.Code == api.OK {
			want = w.closure(l, labels)
		}
		ps, f := closure.Of(l, labels)
		qs, g := closure.Of(l, labels)
		each := closure.Each(l, labels)
		fill(wholeL, markFile)
		fill(wholeT, markLabel)
		if !slices.Equal(ps, want) || !sameFault(f, fault) {
			t.Fatalf("P14.3: an answer shares memory with what was handed in: %q, %+v", ps, f)
		}
		circles += min(len(f.Circle), 1)
		fill(ps, "mark")
		fill(f.Circle, markLabel)
		_, _ = append(ps, "more", "more"), append(f.Circle, lab("mo:re"))
		if !filled(wholeL, markFile) || !filled(wholeT, markLabel) {
			t.Fatalf("P14.3: an answer shares memory with what was handed in: %q, %+v", ps, f)
		}
		if !slices.Equal(qs, want) || !sameFault(g, fault) || !slices.Equal(slices.Collect(each), want) {
			t.Fatalf("P14.3: two answers share memory: %q, %+v, want %q, %+v", qs, g, want, fault)
		}
	}
	if circles < 100 {
		t.Errorf("only %d circles: the worlds say too little", circles)
	}
}

// P14.4

// built is a world's snapshot with labels that it builds.
func built(r *rand.Rand, harm int) (world, []api.File, []api.Label, []api.Node) {
	for {
		w := anyWorld(r, harm)
		l, labels := w.snapshot(), anyLabels(r, w)
		if n, f := build.Of(l, labels); f.Code == api.OK {
			return w, l, labels, n
		}
	}
}

func TestPathsAreFiles(t *testing.T) {
	r := rand.New(rand.NewSource(1441))
	for i := range 3000 {
		_, l, labels, _ := built(r, i%3)
		ps, _ := closure.Of(l, labels)
		for i, p := range ps {
			if _, ok := snap.Find(l, p); !ok || i > 0 && byWords(ps[i-1], p) >= 0 {
				t.Fatalf("P14.4: %q of %+v, %v", ps, l, labels)
			}
		}
	}
}

func TestUnion(t *testing.T) {
	r := rand.New(rand.NewSource(1442))
	unlike := 0
	for i := range 6000 {
		w, l, labels, _ := built(r, i%3)
		others := anyLabels(r, w)
		ps, _ := closure.Of(l, labels)
		qs, f := closure.Of(l, others)
		if f.Code != api.OK {
			continue
		}
		both := paths.Union(ps, qs)
		check(t, "P14.4", l, append(slices.Clone(labels), others...), both, api.Fault{})
		check(t, "P14.4", l, append(slices.Clone(others), labels...), both, api.Fault{})
		if len(both) > max(len(ps), len(qs)) {
			unlike++
		}
	}
	if unlike < 500 {
		t.Errorf("only %d unions that are neither part: the worlds say too little", unlike)
	}
}

// TestCutDown: to the closure, and to parts between it and the whole.
func TestCutDown(t *testing.T) {
	r := rand.New(rand.NewSource(1443))
	for i := range 5000 {
		_, l, labels, n := built(r, i%3)
		ps, _ := closure.Of(l, labels)
		keep := slices.Clone(ps)
		for k := range 3 {
			part := snap.Keep(l, keep)
			m, f := build.Of(part, labels)
			if !sameNodes(m, n) || !sameFault(f, api.Fault{}) || k == 0 && len(part) != len(ps) {
				t.Fatalf("P14.4: of %+v cut down to %q the build of %v is %+v, %+v, want %+v", l, keep, labels, m, f, n)
			}
			check(t, "P14.4", part, labels, ps, api.Fault{})
			for _, f := range l {
				if r.Intn(3) == 0 {
					keep = append(keep, f.Path)
				}
			}
		}
	}
}

// TestNoneToSpare: with any one path taken out, of the whole or of the closure alone, the build is another.
func TestNoneToSpare(t *testing.T) {
	r := rand.New(rand.NewSource(1444))
	faults, others := 0, 0
	for i := range 4000 {
		_, l, labels, n := built(r, i%3)
		ps, _ := closure.Of(l, labels)
		for _, p := range ps {
			for _, part := range [][]api.File{without(l, p), without(snap.Keep(l, ps), p)} {
				m, f := build.Of(part, labels)
				switch {
				case f.Code != api.OK:
					faults++
				case !sameNodes(m, n):
					others++
				default:
					t.Fatalf("P14.4: without %q the build of %v is the same: %+v", p, labels, l)
				}
				if qs, g := closure.Of(part, labels); !sameFault(f, g) || slices.Contains(qs, p) {
					t.Fatalf("P14.4: without %q the closure of %v is %q, %+v", p, labels, qs, g)
				}
			}
		}
	}
	if faults < 1000 || others < 1000 {
		t.Errorf("only %d faults and %d other builds: the worlds say too little", faults, others)
	}
}
