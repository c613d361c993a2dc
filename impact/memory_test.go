package impact_test

import (
	"math/rand"
	"slices"
	"testing"

	"copse/api"
	"copse/impact"
)

// P24.5

var (
	markFile  = api.File{Path: "mark", Text: "mark", Blob: -7, Size: -7}
	markLabel = api.Label{Pkg: "mark", Name: "mark"}
)

// withRoom gives a list in front of marks, and all of it.
func withRoom[T any](items []T, mark T) (l, whole []T) {
	whole = append(slices.Clone(items), mark, mark, mark, mark)
	return whole[:len(items)], whole
}

// fill writes a list over, its spare room too; filled: is it still so?
func fill[T any](l []T, mark T) {
	for i := range l[:cap(l)] {
		l[:cap(l)][i] = mark
	}
}

func filled[T comparable](l []T, mark T) bool {
	return !slices.ContainsFunc(l[:cap(l)], func(x T) bool { return x != mark })
}

// anyArguments are files and paths, some of them refused.
func anyArguments(r *rand.Rand, harm int) ([]api.File, []string) {
	l := anyWorld(r, harm).snapshot()
	paths := append(anyPaths(r, l), pick(r, append(pathsOf(l), "no")))
	switch r.Intn(12) {
	case 0:
		r.Shuffle(len(l), func(i, j int) { l[i], l[j] = l[j], l[i] })
	case 1:
		l = append(l, api.File{Path: "z/"})
	case 2:
		paths = pathsOf(l)
	}
	return l, paths
}

func TestWhatIsHandedInStays(t *testing.T) {
	r := rand.New(rand.NewSource(2461))
	for i := range 3000 {
		files, some := anyArguments(r, i%4)
		l, wholeL := withRoom(files, markFile)
		paths, wholeP := withRoom(some, "mark")
		wasL, wasP := slices.Clone(wholeL), slices.Clone(wholeP)
		impact.Labels(l)
		impact.Of(l, paths)
		if !slices.Equal(wholeL, wasL) || !slices.Equal(wholeP, wasP) {
			t.Fatalf("P24.5: Labels or Of of %+v, %q changed what was handed in, or the room behind it", wasL[:len(l)], wasP[:len(paths)])
		}
	}
}

// answers of both functions, for the same arguments.
type answers struct {
	all, told []api.Label
	e, e2     api.Errno
}

func ask(l []api.File, paths []string) (a answers) {
	a.all, a.e = impact.Labels(l)
	a.told, a.e2 = impact.Of(l, paths)
	return a
}

func (a answers) same(b answers) bool {
	return slices.Equal(a.all, b.all) && slices.Equal(a.told, b.told) && a.e == b.e && a.e2 == b.e2
}

func (a answers) copied() answers {
	a.all, a.told = slices.Clone(a.all), slices.Clone(a.told)
	return a
}

// TestAnswersAreNew: what was handed in and one answer are written over and lengthened, and nothing shows in the others.
func TestAnswersAreNew(t *testing.T) {
	r := rand.New(rand.NewSource(2462))
	told := 0
	for i := range 3000 {
		files, some := anyArguments(r, i%4)
		l, wholeL := withRoom(files, markFile)
		paths, wholeP := withRoom(some, "mark")
		one, two := ask(l, paths), ask(l, paths)
		want := one.copied()
		told += len(want.told)
		fill(one.all, markLabel)
		_ = append(one.all, lab("mo:re"), lab("mo:re"))
		if !slices.Equal(one.told, want.told) {
			t.Fatalf("P24.5: Labels and Of of %+v, %q share memory", files, some)
		}
		fill(one.told, markLabel)
		_ = append(one.told, lab("mo:re"), lab("mo:re"))
		if !two.same(want) || !slices.Equal(l, files) || !slices.Equal(paths, some) {
			t.Fatalf("P24.5: an answer shares memory with another one, or with what was handed in: %+v, want %+v", two, want)
		}
		if three := ask(l, paths); !three.same(want) {
			t.Fatalf("P24.5: an answer was kept: %+v, want %+v", three, want)
		}
		fill(wholeL, markFile)
		fill(wholeP, "mark")
		if !two.same(want) {
			t.Fatalf("P24.5: an answer hangs on what was handed in: %+v, want %+v", two, want)
		}
		fill(two.all, markLabel)
		fill(two.told, markLabel)
		if !filled(wholeL, markFile) || !filled(wholeP, "mark") {
			t.Fatalf("P24.5: an answer shares memory with what was handed in")
		}
		if three := ask(files, some); !three.same(want) {
			t.Fatalf("P24.5: what was handed in was kept: %+v, want %+v", three, want)
		}
	}
	if told < 3000 {
		t.Errorf("only %d labels were told: the worlds say too little", told)
	}
}

// TestNothingIsKept: a call hangs on its arguments alone, not on those ahead of it.
func TestNothingIsKept(t *testing.T) {
	l, m := grove(), with(grove(), "c/d/TARGETS:target base { see = [public] }", "a/TARGETS:bad")
	want, other := ask(l, []string{"c/d/1.c"}), ask(m, []string{"c/d/TARGETS"})
	if len(want.told) != 5 || !slices.Equal(other.told, labs("c/d:base")) {
		t.Fatalf("P24.2: %+v and %+v", want, other)
	}
	for range 3 {
		for _, c := range []struct {
			l    []api.File
			p    string
			want answers
		}{{l, "c/d/1.c", want}, {m, "c/d/TARGETS", other}} {
			if got := ask(c.l, []string{c.p}); !got.same(c.want) {
				t.Errorf("P24.5: Of(.., %q): %+v, want %+v", c.p, got, c.want)
			}
			if got := ask(append(c.l[:len(c.l):len(c.l)], api.File{}), []string{c.p}); !got.same(answers{e: api.ErrPath, e2: api.ErrPath}) {
				t.Errorf("P24.1: %+v of no snapshot", got)
			}
		}
	}
	// One list, changed between the calls.
	for i, f := range l {
		if f.Path == "c/d/TARGETS" {
			l[i] = files("c/d/TARGETS:target base { see = [public] }")[0]
		}
	}
	tells(t, "P24.5", l, []string{"c/d/1.c"}, nil)
	tells(t, "P24.5", l, []string{"c/d/TARGETS"}, labs(":all a:lib a:test b:bin c/d:base"))
}
