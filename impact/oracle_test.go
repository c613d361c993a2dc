package impact_test

import (
	"fmt"
	"maps"
	"math/rand"
	"slices"
	"strings"
	"testing"

	"copse/api"
	"copse/build"
)

// The oracle: DOC.md's words over a world whose manifests are known as targets, not as texts. It calls no layer.

type world struct {
	packs map[string]pack
	rest  []api.File // all files but the packages' manifests
}

type pack struct {
	targets []api.Target
	bad     bool // its text does not parse
}

func pieces(p string) []string {
	if p == "" {
		return nil
	}
	return strings.Split(p, "/")
}

func byWords(p, q string) int { return slices.Compare(pieces(p), pieces(q)) }

func byFiles(a, b api.File) int { return byWords(a.Path, b.Path) }

func byLabels(a, b api.Label) int {
	if c := byWords(a.Pkg, b.Pkg); c != 0 {
		return c
	}
	return strings.Compare(a.Name, b.Name)
}

func joined(pkg, p string) string {
	if pkg == "" {
		return p
	}
	return pkg + "/" + p
}

// all are the packages, in one order, so that each run has the same worlds.
func (w world) all() []string { return slices.Sorted(maps.Keys(w.packs)) }

func (w world) snapshot() []api.File {
	l := slices.Clone(w.rest)
	for _, pkg := range w.all() {
		text := ""
		for _, x := range w.packs[pkg].targets {
			text += written(x)
		}
		if w.packs[pkg].bad {
			text += "target"
		}
		l = append(l, api.File{Path: joined(pkg, "TARGETS"), Text: text, Size: len(text)})
	}
	slices.SortFunc(l, byFiles)
	return l
}

func written(x api.Target) string {
	var deps []string
	for _, d := range x.Deps {
		deps = append(deps, "//"+d.Pkg+":"+d.Name)
	}
	return fmt.Sprintf("target %s { deps = [%s] srcs = [%s] see = [%s] }\n",
		x.Name, strings.Join(deps, ", "), strings.Join(x.Srcs, ", "), strings.Join(x.See, ", "))
}

func (w world) labels() []api.Label {
	var l []api.Label
	for pkg, p := range w.packs {
		for _, x := range p.targets {
			if !p.bad {
				l = append(l, api.Label{Pkg: pkg, Name: x.Name})
			}
		}
	}
	slices.SortFunc(l, byLabels)
	return l
}

func (w world) target(a api.Label) (api.Target, bool) {
	for _, x := range w.packs[a.Pkg].targets {
		if x.Name == a.Name && !w.packs[a.Pkg].bad {
			return x, true
		}
	}
	return api.Target{}, false
}

// reached grows until nothing new is reached.
func (w world) reached(from ...api.Label) map[api.Label]bool {
	in := map[api.Label]bool{}
	for _, a := range from {
		in[a] = true
	}
	for grown := true; grown; {
		grown = false
		for _, a := range slices.Collect(maps.Keys(in)) {
			x, _ := w.target(a)
			for _, d := range x.Deps {
				grown = grown || !in[d]
				in[d] = true
			}
		}
	}
	return in
}

// builds: has a label a build, or why not? Of several faults it tells one of the first kind.
func (w world) builds(a api.Label) api.Errno {
	in := w.reached(a)
	for _, ask := range []struct {
		wrong func(api.Label) bool
		code  api.Errno
	}{
		{func(b api.Label) bool { return w.packs[b.Pkg].bad }, api.ErrParse},
		{w.lacks, api.ErrMissing},
		{func(b api.Label) bool { x, _ := w.target(b); return w.reached(x.Deps...)[b] }, api.ErrCycle},
		{w.blind, api.ErrSee},
	} {
		for b := range in {
			if ask.wrong(b) {
				return ask.code
			}
		}
	}
	return api.OK
}

// lacks: is the target not there, or a literal of it?
func (w world) lacks(b api.Label) bool {
	x, there := w.target(b)
	return !there || slices.ContainsFunc(x.Srcs, func(s string) bool {
		return !strings.Contains(s, "*") && !slices.ContainsFunc(w.rest, func(f api.File) bool { return f.Path == joined(b.Pkg, s) })
	})
}

// blind: has it a dep that it may not see?
func (w world) blind(b api.Label) bool {
	x, _ := w.target(b)
	return slices.ContainsFunc(x.Deps, func(d api.Label) bool {
		y, _ := w.target(d)
		return d.Pkg != b.Pkg && !slices.ContainsFunc(y.See, func(s string) bool { return namesPackage(s, b.Pkg) })
	})
}

func namesPackage(s, pkg string) bool {
	dir, tree := strings.CutSuffix(s, "/...")
	return s == "public" || s == "//..." || s == "//"+pkg || tree && strings.HasPrefix("//"+pkg+"/", dir+"/")
}

// hits: has the label's closure one of the paths? Each file is asked whether something reached has asked for it.
func (w world) hits(a api.Label, paths []string) bool {
	for b := range w.reached(a) {
		x, _ := w.target(b)
		if slices.Contains(paths, joined(b.Pkg, "TARGETS")) {
			return true
		}
		for _, f := range w.rest {
			if slices.Contains(paths, f.Path) && slices.ContainsFunc(x.Srcs, func(s string) bool { return names(joined(b.Pkg, s), f.Path) }) {
				return true
			}
		}
	}
	return false
}

// names: does a source, written from the root, name the path?
func names(src, p string) bool {
	ahead, behind, star := strings.Cut(src, "*")
	if !star {
		return src == p
	}
	return len(p) >= len(ahead)+len(behind) && strings.HasPrefix(p, ahead) && strings.HasSuffix(p, behind) && !strings.Contains(p[len(ahead):len(p)-len(behind)], "/")
}

// built are the labels that have a build, told those of them that the paths reach.
func (w world) built() []api.Label {
	return slices.DeleteFunc(w.labels(), func(a api.Label) bool { return w.builds(a) != api.OK })
}

func (w world) told(paths []string) []api.Label {
	return slices.DeleteFunc(w.built(), func(a api.Label) bool { return !w.hits(a, paths) })
}

// Worlds to hold it against.

func pick[T any](r *rand.Rand, l []T) T { return l[r.Intn(len(l))] }

func picks[T comparable](r *rand.Rand, n int, l []T) []T {
	var some []T
	for range n {
		if x := pick(r, l); !slices.Contains(some, x) {
			some = append(some, x)
		}
	}
	return some
}

func anySrcs(r *rand.Rand) []string {
	return picks(r, r.Intn(4), []string{"x.c", "y.c", "*.c", "*", "b/x.c", "b/*", "s/*.h", "*y.c", "x*", "none*", "T*", "zz"})
}

func anySeers(r *rand.Rand) []string {
	return picks(r, r.Intn(4), []string{"//a", "//a/...", "//", "//b", "//a/b/...", "//A", "//...", "public"})
}

// anyWorld: harm is how many of its parts are out of order.
func anyWorld(r *rand.Rand, harm int) world {
	w := world{packs: map[string]pack{}}
	var all []api.Label
	for _, pkg := range picks(r, 1+r.Intn(7), []string{"", "a", "A", "a/b", "a/b/c", "a/S", "a-b", "ab", "b"}) {
		w.packs[pkg] = pack{}
		for _, name := range picks(r, r.Intn(4), []string{"n", "m", "target", "A"}) {
			all = append(all, api.Label{Pkg: pkg, Name: name})
		}
	}
	r.Shuffle(len(all), func(i, j int) { all[i], all[j] = all[j], all[i] })
	for i, a := range all {
		x := api.Target{Name: a.Name, See: []string{pick(r, []string{"public", "//..."})}, Srcs: anySrcs(r)}
		if i > 0 {
			x.Deps = picks(r, r.Intn(3), all[:i])
		}
		w.packs[a.Pkg] = pack{targets: append(w.packs[a.Pkg].targets, x)}
	}
	w.rest = anyFiles(r, w)
	for range harm {
		w.spoil(r)
	}
	return w
}

func anyFiles(r *rand.Rand, w world) []api.File {
	ps := map[string]bool{}
	for _, pkg := range w.all() {
		for _, s := range []string{"x.c", "y.c", "b/x.c", "b/y", "s/q.h", "zz", "b.c"} {
			ps[joined(pkg, s)] = ps[joined(pkg, s)] || r.Intn(3) == 0
		}
		for _, x := range w.packs[pkg].targets {
			for _, s := range x.Srcs {
				ps[joined(pkg, s)] = !strings.Contains(s, "*") || ps[joined(pkg, s)]
			}
		}
	}
	var l []api.File
	for _, p := range slices.Sorted(maps.Keys(ps)) {
		if ps[p] && !strings.Contains(p, "*") {
			l = append(l, api.File{Path: p, Blob: r.Intn(5), Size: r.Intn(5)})
		}
	}
	return l
}

// spoil changes one thing, mostly for the worse; what was handed out of the world ahead of it stays.
func (w *world) spoil(r *rand.Rand) {
	all := w.labels()
	if len(all) == 0 {
		return
	}
	a := pick(r, all)
	p := w.packs[a.Pkg]
	p.targets = slices.Clone(p.targets)
	i := slices.IndexFunc(p.targets, func(x api.Target) bool { return x.Name == a.Name })
	x := &p.targets[i]
	switch r.Intn(10) {
	case 0:
		p.bad = true
	case 1:
		p.targets = slices.Delete(p.targets, i, i+1)
	case 2:
		w.rest = slices.DeleteFunc(slices.Clone(w.rest), func(f api.File) bool { return strings.HasPrefix(f.Path, joined(a.Pkg, "")) && r.Intn(3) == 0 })
	case 3:
		w.put(api.File{Path: joined(a.Pkg, pick(r, []string{"x.c", "y.c", "b/x.c", "q.c", "s/r.h", "none", "b/q"})), Blob: 9, Size: 9})
	case 4:
		if d := pick(r, all); !slices.Contains(x.Deps, d) {
			x.Deps = append(slices.Clone(x.Deps), d)
		}
	case 5:
		x.Srcs = anySrcs(r)
	case 6:
		x.Deps = nil
	case 7:
		if !slices.Contains(all, api.Label{Pkg: a.Pkg, Name: "new"}) {
			p.targets = append(p.targets, api.Target{Name: "new", Srcs: anySrcs(r), Deps: []api.Label{a}, See: anySeers(r)})
		}
	default:
		x.See = anySeers(r)
	}
	w.packs = maps.Clone(w.packs)
	w.packs[a.Pkg] = p
}

// put lays a file, unless another one would be above it or below.
func (w *world) put(f api.File) {
	rest := slices.DeleteFunc(slices.Clone(w.rest), func(g api.File) bool { return g.Path == f.Path })
	for _, g := range rest {
		if strings.HasPrefix(g.Path, f.Path+"/") || strings.HasPrefix(f.Path, g.Path+"/") {
			return
		}
	}
	for _, pkg := range w.all() {
		if strings.HasPrefix(pkg+"/", f.Path+"/") {
			return
		}
	}
	w.rest = append(rest, f)
}

// anyPaths are some of the files' and others.
func anyPaths(r *rand.Rand, l []api.File) []string {
	all := append(pathsOf(l), "", "no", "a", "a/TARGETS", "/", "a/", "b/x.c", "\xff", "none")
	var ps []string
	for range r.Intn(5) {
		ps = append(ps, pick(r, all))
	}
	return ps
}

func TestAnyWorlds(t *testing.T) {
	r := rand.New(rand.NewSource(2421))
	codes, some, all := map[api.Errno]int{}, 0, 0
	for i := range 6000 {
		w := anyWorld(r, i%5)
		l := w.snapshot()
		has(t, l, w.labels())
		for range 3 {
			paths := anyPaths(r, l)
			want := w.told(paths)
			tells(t, "P24.2", l, paths, want)
			some += min(len(want), 1)
			all += len(want)
		}
		for _, a := range w.labels() {
			codes[w.builds(a)]++
		}
	}
	for _, c := range []api.Errno{api.OK, api.ErrParse, api.ErrMissing, api.ErrCycle, api.ErrSee} {
		if codes[c] < 300 {
			t.Errorf("only %d labels of the code %d: the worlds say too little", codes[c], c)
		}
	}
	if some < 4000 || all < 8000 {
		t.Errorf("only %d answers with a label, %d labels in all: the worlds say too little", some, all)
	}
}

// TestOracle: it finds builds where build.Of does, and the same kinds of faults.
func TestOracle(t *testing.T) {
	r := rand.New(rand.NewSource(2422))
	for i := range 2000 {
		w := anyWorld(r, i%5)
		for _, a := range w.labels() {
			if _, f := build.Of(w.snapshot(), []api.Label{a}); f.Code != w.builds(a) {
				t.Fatalf("%v of %+v: %+v, the oracle: %d", a, w.snapshot(), f, w.builds(a))
			}
		}
	}
}

// TestSmallWorlds: three targets in two packages, with all sources, all deps (circles too), and each file there or not, by each path.
func TestSmallWorlds(t *testing.T) {
	all := labs(":n a:m a:n")
	srcs := [][]string{{"a/b"}, {"*"}, {"b", "d/*"}}
	for bits := range 1 << 11 {
		w := world{packs: map[string]pack{}, rest: files("a/d/x", "z")}
		if bits>>10&1 == 1 {
			w.rest = files("a/b", "a/d/x", "z")
		}
		for i, a := range all {
			x := api.Target{Name: a.Name, See: []string{"public"}}
			if bits>>i&1 == 1 {
				x.Srcs = srcs[i]
			}
			for k, d := range all {
				if k != i && bits>>(3+2*i+(k+3-i)%3-1)&1 == 1 {
					x.Deps = append(x.Deps, d)
				}
			}
			if i == 0 && bits>>9&1 == 1 {
				x.See = nil
			}
			w.packs[a.Pkg] = pack{targets: append(w.packs[a.Pkg].targets, x)}
		}
		l := w.snapshot()
		has(t, l, all)
		tells(t, "P24.3", l, pathsOf(l), w.built())
		for _, f := range l {
			tells(t, "P24.2", l, []string{f.Path}, w.told([]string{f.Path}))
		}
	}
}
