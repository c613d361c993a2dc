package impact_test

import (
	"math/rand"
	"slices"
	"testing"

	"copse/api"
	"copse/build"
	"copse/impact"
)

// P24.3

func TestNoPaths(t *testing.T) {
	r := rand.New(rand.NewSource(2431))
	for i := range 500 {
		l := anyWorld(r, i%4).snapshot()
		tells(t, "P24.3", l, nil, nil)
		tells(t, "P24.3", l, []string{}, nil)
	}
}

// TestMorePaths: what a part of the paths reaches the whole of them reaches too.
func TestMorePaths(t *testing.T) {
	r := rand.New(rand.NewSource(2432))
	grown := 0
	for i := range 2000 {
		l := anyWorld(r, i%4).snapshot()
		part := anyPaths(r, l)
		more := append(slices.Clone(part), anyPaths(r, l)...)
		r.Shuffle(len(more), func(i, j int) { more[i], more[j] = more[j], more[i] })
		few, _ := impact.Of(l, part)
		many, _ := impact.Of(l, more)
		for _, a := range few {
			if !slices.Contains(many, a) {
				t.Fatalf("P24.3: Of(%+v, %q) is %v, but Of %q %v", l, part, few, more, many)
			}
		}
		if len(many) > len(few) {
			grown++
		}
	}
	if grown < 300 {
		t.Errorf("only %d answers grew: the worlds say too little", grown)
	}
}

// hasBuild: has the label one of its own?
func hasBuild(l []api.File, a api.Label) ([]api.Node, bool) {
	n, f := build.Of(l, []api.Label{a})
	return n, f.Code == api.OK
}

func TestAllPaths(t *testing.T) {
	r := rand.New(rand.NewSource(2433))
	left := 0
	for i := range 2000 {
		l := anyWorld(r, i%4).snapshot()
		all, _ := impact.Labels(l)
		want := slices.DeleteFunc(slices.Clone(all), func(a api.Label) bool { _, ok := hasBuild(l, a); return !ok })
		left += min(len(all)-len(want), 1)
		tells(t, "P24.3", l, pathsOf(l), want)
		tells(t, "P24.3", l, append(pathsOf(l), "no", "\xff", "a/"), want)
	}
	if left < 300 {
		t.Errorf("only in %d worlds some label has no build: the worlds say too little", left)
	}
}

// P24.4

// apart are the paths at which two snapshots have not the same file.
func apart(l, m []api.File) []string {
	var ps []string
	for _, f := range l {
		if !slices.Contains(m, f) {
			ps = append(ps, f.Path)
		}
	}
	for _, f := range m {
		if !slices.Contains(l, f) && !slices.Contains(ps, f.Path) {
			ps = append(ps, f.Path)
		}
	}
	return ps
}

func sameNodes(a, b []api.Node) bool {
	return slices.EqualFunc(a, b, func(x, y api.Node) bool {
		return x.Label == y.Label && slices.Equal(x.Srcs, y.Srcs) && slices.Equal(x.Deps, y.Deps)
	})
}

// counts of labels that both snapshots build: told of a build that is another, of one that is the same, and not told.
type counts struct {
	other, same, quiet int
}

// keeps holds P24.4 for two snapshots that part at the paths alone.
func keeps(t *testing.T, l, m []api.File, paths []string) (c counts) {
	t.Helper()
	all, _ := impact.Labels(l)
	also, _ := impact.Labels(m)
	told, e := impact.Of(l, paths)
	toldAlso, e2 := impact.Of(m, paths)
	if e != api.OK || e2 != api.OK {
		t.Fatalf("P24.4: %d and %d of the snapshots\n%+v\n%+v", e, e2, l, m)
	}
	for _, a := range all {
		n, ok := hasBuild(l, a)
		n2, ok2 := hasBuild(m, a)
		isTold := slices.Contains(told, a) || slices.Contains(toldAlso, a)
		switch {
		case !slices.Contains(also, a) || !ok || !ok2:
		case !isTold && !sameNodes(n, n2):
			t.Fatalf("P24.4: %v is not told of %q, but its build is another:\n%+v\n%+v", a, paths, l, m)
		case !isTold:
			c.quiet++
		case sameNodes(n, n2):
			c.same++
		default:
			c.other++
		}
	}
	return c
}

// TestChanges: of one change to the grove each snapshot tells what its own closures say.
func TestChanges(t *testing.T) {
	l := grove()
	lib := ":all a:lib a:test b:bin"
	edited := slices.Clone(l)
	at := slices.IndexFunc(l, func(f api.File) bool { return f.Path == "a/l.c" })
	edited[at].Blob++
	for _, c := range []struct {
		m          []api.File
		told, also string // of the old snapshot, of the new one
	}{
		// A file is changed, put in, taken away.
		{edited, lib, lib},
		{with(l, "a/h/4.h"), "", lib},
		{without(l, "a/h/1.h"), lib, ""},
		{with(l, "y.md"), "", ":alone"},
		{with(l, "q/x"), "", ""},
		{without(l, "q/w", "c/e", "c/d/2.h"), "", ""},
		{without(l, "c/d/z"), lib + " c/d:base", ""}, // then these have no build
		{without(l, "a/t.c"), "a:test", ""},
		{without(with(l, "c/d/2.c"), "c/d/1.c", "x.md"), lib + " c/d:base :alone", lib + " c/d:base"},
		// A manifest is changed, put in, taken away: labels go, come, ask for others.
		{with(l, "c/d/TARGETS:target base { srcs = [z, *.c] see = [public] }"), lib + " c/d:base c/d:other", lib + " c/d:base"},
		{with(l, "q/TARGETS:target n { srcs = [w] }"), "", "q:n"},
		{without(l, "b/TARGETS"), ":all b:bin", ""},
		{with(l, "b/TARGETS:target bin { srcs = [m.c] deps = [//c/d:base] see = [public] }"), ":all b:bin", ":all b:bin"},
		{with(l, "b/TARGETS:target bin { } target bin { }"), ":all b:bin", ""},
		{with(l, "TARGETS:target all { srcs = [r, x.md] }"), ":all :alone", ":all"},
		{with(l, "TARGETS:target all { srcs = [r] deps = [//c/d:other] }"), ":all :alone", ""},
		{with(l, "s/TARGETS:target n { deps = [//b:bin] }"), "", "s:n"},
		{with(l, "c/d/TARGETS:target base { srcs = [z, *.c] see = [//a] } target other { srcs = [o] }"), lib + " c/d:base c/d:other", "a:lib a:test c/d:base c/d:other"},
	} {
		paths := apart(l, c.m)
		want, also := labs(c.told), labs(c.also)
		slices.SortFunc(want, byLabels)
		slices.SortFunc(also, byLabels)
		tells(t, "P24.2", l, paths, want)
		tells(t, "P24.2", c.m, paths, also)
		keeps(t, l, c.m, paths)
		keeps(t, c.m, l, paths)
		keeps(t, l, c.m, append(paths, "q/w", "no", "a/l.c"))
	}
	keeps(t, l, l, nil)
	keeps(t, l, nil, pathsOf(l))
}

func TestAnyChanges(t *testing.T) {
	r := rand.New(rand.NewSource(2441))
	var sum counts
	for i := range 6000 {
		w := anyWorld(r, i%3)
		l := w.snapshot()
		for range 1 + r.Intn(3) {
			w.spoil(r)
		}
		m := w.snapshot()
		if r.Intn(2) == 0 {
			l, m = m, l
		}
		paths := apart(l, m)
		if r.Intn(2) == 0 {
			paths = append(paths, anyPaths(r, l)...)
		}
		r.Shuffle(len(paths), func(i, j int) { paths[i], paths[j] = paths[j], paths[i] })
		c := keeps(t, l, m, paths)
		sum = counts{sum.other + c.other, sum.same + c.same, sum.quiet + c.quiet}
	}
	if sum.other < 1000 || sum.quiet < 5000 {
		t.Errorf("only %+v labels: the worlds say too little", sum)
	}
}
