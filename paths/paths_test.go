package paths_test

import (
	"slices"
	"strings"
	"testing"

	"copse/path"
	"copse/paths"
)

// small are texts of all kinds of neighbours: the root, above and below, beginnings of one another, empty pieces.
var small = []string{"", "a", "a/b", "a/b/c", "a-b", "a-b/c", "ab", "b", "/", "a/", "//", "/a", "a//b", "\xff", "\x00", "B"}

// lists are all of up to the given number of items, in every order and with items twice.
func lists(items []string, most int) [][]string {
	all := [][]string{nil}
	for from, n := 0, 0; n < most; n++ {
		to := len(all)
		for _, head := range all[from:to] {
			for _, s := range items {
				all = append(all, append(slices.Clone(head), s))
			}
		}
		from = to
	}
	return all
}

// piecesOf follows chapter 2's word for pieces.
func piecesOf(p string) []string {
	if p == "" {
		return nil
	}
	return strings.Split(p, "/")
}

// set gives those of all that are wanted, by chapter 2's order: the oracle of every list that is answered.
func set(all []string, wanted func(string) bool) []string {
	var out []string
	for _, p := range all {
		if !wanted(p) {
			continue
		}
		at := 0
		for at < len(out) && slices.Compare(piecesOf(out[at]), piecesOf(p)) < 0 {
			at++
		}
		if at == len(out) || out[at] != p {
			out = slices.Insert(out, at, p)
		}
	}
	return out
}

func in(l []string, p string) bool {
	for _, q := range l {
		if q == p {
			return true
		}
	}
	return false
}

func isAbove(a, b string) bool {
	x, y := piecesOf(a), piecesOf(b)
	return len(x) < len(y) && slices.Equal(x, y[:len(x)])
}

func dirOf(p string) string {
	x := piecesOf(p)
	if len(x) == 0 {
		return ""
	}
	return strings.Join(x[:len(x)-1], "/")
}

func check(t *testing.T, promise, call string, got, want []string, of ...[]string) {
	t.Helper()
	if !slices.Equal(got, want) {
		t.Errorf("%s: %s of %q: %q, want %q", promise, call, of, got, want)
	}
}

func every(string) bool { return true }

// P3.1

func TestNorm(t *testing.T) {
	for _, c := range []struct{ l, want []string }{
		{nil, nil},
		{[]string{}, nil},
		{[]string{""}, []string{""}},
		{[]string{"", ""}, []string{""}},
		{[]string{"b", "a/c", "a", "b", ""}, []string{"", "a", "a/c", "b"}},
		{[]string{"a-b", "a/b", "a"}, []string{"a", "a/b", "a-b"}},
		{[]string{"a", "a", "a"}, []string{"a"}},
		{[]string{"b", "a", "b", "a"}, []string{"a", "b"}},
		{[]string{"a", "B", "0", "_", ".x"}, []string{".x", "0", "B", "_", "a"}},
		{[]string{"é", "\xff", "z", "\x00"}, []string{"\x00", "z", "é", "\xff"}},
		{[]string{"a/", "a", "/a", "/", "//", ""}, []string{"", "/", "//", "/a", "a", "a/"}},
		{[]string{"a/b", "a//b", "a/ b"}, []string{"a//b", "a/ b", "a/b"}},
		{[]string{"x/10", "x/9", "x/1"}, []string{"x/1", "x/10", "x/9"}},
	} {
		check(t, "P3.1", "Norm", paths.Norm(c.l), c.want, c.l)
	}
}

func TestNormOfAllShortLists(t *testing.T) {
	for _, l := range lists(small, 3) {
		check(t, "P3.1", "Norm", paths.Norm(l), set(l, every), l)
	}
}

func TestNormOfManyTexts(t *testing.T) {
	var all []string
	for _, bytes := range lists([]string{"a", "/", "-"}, 5) {
		all = append(all, strings.Join(bytes, ""))
	}
	want := set(all, every)
	for _, step := range []int{1, 3, 5, 11, 25, 101} { // none shares a factor with their number, so each goes through all of them
		var l []string
		for i := range 2 * len(all) {
			l = append(l, all[i*step%len(all)])
		}
		check(t, "P3.1", "Norm", paths.Norm(l), want, l)
	}
	slices.Reverse(all)
	check(t, "P3.1", "Norm", paths.Norm(all), want, all)
	check(t, "P3.1", "Norm", paths.Norm(want), want, want)
}

func TestHas(t *testing.T) {
	for _, c := range []struct {
		l    []string
		p    string
		want bool
	}{
		{[]string{"b", "a"}, "a", true},
		{[]string{"b", "a"}, "b", true},
		{[]string{"c", "a", "b", "a"}, "c", true},
		{[]string{"c", "a", "b"}, "b", true},
		{nil, "", false},
		{[]string{""}, "", true},
		{[]string{"a", ""}, "", true},
		{[]string{"a"}, "", false},
		{[]string{"a/b"}, "a", false},
		{[]string{"a"}, "a/b", false},
		{[]string{"ab"}, "a", false},
		{[]string{"a/"}, "a", false},
		{[]string{"A"}, "a", false},
		{[]string{"//"}, "/", false},
		{[]string{"a\xff"}, "a\xfe", false},
	} {
		if got := paths.Has(c.l, c.p); got != c.want {
			t.Errorf("P3.1: Has(%q, %q): %v", c.l, c.p, got)
		}
	}
}

func TestHasOfAllShortLists(t *testing.T) {
	for _, l := range lists(small, 3) {
		for _, p := range small {
			if got := paths.Has(l, p); got != in(l, p) {
				t.Errorf("P3.1: Has(%q, %q): %v", l, p, got)
			}
		}
	}
}

// P3.2

func TestUnionMinusMeet(t *testing.T) {
	for _, c := range []struct{ a, b, union, minus, meet []string }{
		{nil, nil, nil, nil, nil},
		{[]string{"b"}, []string{"a", "b"}, []string{"a", "b"}, nil, []string{"b"}},
		{[]string{"b", "a", "b"}, []string{"a"}, []string{"a", "b"}, []string{"b"}, []string{"a"}},
		{[]string{"b", "a"}, []string{"c", "a"}, []string{"a", "b", "c"}, []string{"b"}, []string{"a"}},
		{nil, []string{"b", "a", "b"}, []string{"a", "b"}, nil, nil},
		{[]string{"b", "a", "b"}, nil, []string{"a", "b"}, []string{"a", "b"}, nil},
		{[]string{"", "a"}, []string{"a", ""}, []string{"", "a"}, nil, []string{"", "a"}},
		{[]string{"a"}, []string{"a/b", ""}, []string{"", "a", "a/b"}, []string{"a"}, nil},
		{[]string{"a-b", "a"}, []string{"a/b", "a-b"}, []string{"a", "a/b", "a-b"}, []string{"a"}, []string{"a-b"}},
		{[]string{"d", "c", "b", "a"}, []string{"b", "d", "f", "e"}, []string{"a", "b", "c", "d", "e", "f"}, []string{"a", "c"}, []string{"b", "d"}},
		{[]string{"z", "y"}, []string{"b", "a"}, []string{"a", "b", "y", "z"}, []string{"y", "z"}, nil},
		{[]string{"a/", "a"}, []string{"a", "/a"}, []string{"/a", "a", "a/"}, []string{"a/"}, []string{"a"}},
		{[]string{"a", "a"}, []string{"a", "a", "a"}, []string{"a"}, nil, []string{"a"}},
	} {
		check(t, "P3.2", "Union", paths.Union(c.a, c.b), c.union, c.a, c.b)
		check(t, "P3.2", "Minus", paths.Minus(c.a, c.b), c.minus, c.a, c.b)
		check(t, "P3.2", "Meet", paths.Meet(c.a, c.b), c.meet, c.a, c.b)
	}
}

func TestUnionMinusMeetOfAllShortLists(t *testing.T) {
	some := lists([]string{"a", "", "a-b", "a/b", "b"}, 3)
	for _, a := range some {
		for _, b := range some {
			both := append(slices.Clone(a), b...)
			check(t, "P3.2", "Union", paths.Union(a, b), set(both, every), a, b)
			check(t, "P3.2", "Minus", paths.Minus(a, b), set(a, func(p string) bool { return !in(b, p) }), a, b)
			check(t, "P3.2", "Meet", paths.Meet(a, b), set(a, func(p string) bool { return in(b, p) }), a, b)
		}
	}
}

// P3.3

func TestDirs(t *testing.T) {
	for _, c := range []struct{ l, want []string }{
		{nil, nil},
		{[]string{"a/b/f", "a/g", "h"}, []string{"", "a", "a/b"}},
		{[]string{""}, []string{""}},
		{[]string{"h", "", "g"}, []string{""}},
		{[]string{"b/x", "a/x", "b/y"}, []string{"a", "b"}},
		{[]string{"a-b/x", "a/b/x", "a/x"}, []string{"a", "a/b", "a-b"}},
		{[]string{"a/", "/a", "//", "/"}, []string{"", "/", "a"}},
	} {
		check(t, "P3.3", "Dirs", paths.Dirs(c.l), c.want, c.l)
	}
}

func TestHeads(t *testing.T) {
	for _, c := range []struct{ l, want []string }{
		{nil, nil},
		{[]string{"a/b", "a", "c/d", "a-b"}, []string{"a", "a-b", "c/d"}},
		{[]string{"", "a"}, []string{""}},
		{[]string{"a", "/", ""}, []string{""}},
		{[]string{"a", "a"}, []string{"a"}},
		{[]string{"b", "a/c", "a/b", "b"}, []string{"a/b", "a/c", "b"}},
		{[]string{"a/b/c", "a/b/d", "a/c", "a/b"}, []string{"a/b", "a/c"}},
		{[]string{"a/x", "a/b/c/d", "a", "b/c", "b/c/d/e"}, []string{"a", "b/c"}},
		{[]string{"ab", "a", "a/b", "a.b"}, []string{"a", "a.b", "ab"}},
		{[]string{"a-b/c", "a/b", "a-b", "a/b/c"}, []string{"a/b", "a-b"}},
		{[]string{"a//", "a/", "/", "//a"}, []string{"/", "a/"}}, // "/" has two empty pieces, and "//a" begins with them
	} {
		check(t, "P3.3", "Heads", paths.Heads(c.l), c.want, c.l)
	}
}

func TestDirsAndHeadsOfAllShortLists(t *testing.T) {
	for _, l := range lists(small, 3) {
		var dirs []string
		for _, p := range l {
			dirs = append(dirs, dirOf(p))
		}
		check(t, "P3.3", "Dirs", paths.Dirs(l), set(dirs, every), l)
		check(t, "P3.3", "Heads", paths.Heads(l), set(l, func(p string) bool {
			return !slices.ContainsFunc(l, func(q string) bool { return isAbove(q, p) })
		}), l)
	}
}

// P3.4

// roomy has a list in front, and behind it spare room with marks.
type roomy struct {
	whole []string
	items []string
}

func newRoomy(items ...string) roomy {
	whole := append(slices.Clone(items), "mark 1", "mark 2", "mark 3", "mark 4", "mark 5", "mark 6")
	return roomy{whole, whole[:len(items)]}
}

// unlike writes over a list and its spare room.
func unlike(l []string) {
	l = l[:cap(l)]
	for i := range l {
		l[i] = "unlike"
	}
}

// calls are all functions that answer a list, on one list or on two.
var calls = []struct {
	name string
	call func(a, b []string) []string
}{
	{"Norm", func(a, b []string) []string { return paths.Norm(a) }},
	{"Union", paths.Union},
	{"Minus", paths.Minus},
	{"Meet", paths.Meet},
	{"Dirs", func(a, b []string) []string { return paths.Dirs(a) }},
	{"Heads", func(a, b []string) []string { return paths.Heads(a) }},
}

var pairs = [][2][]string{
	{{"b", "a/c", "a", "b", ""}, {"c", "a", "a", "a/d"}},
	{{"", "a", "b"}, {"a", "b", "c"}},
	{{"a", "b"}, {"c", "d"}},
	{{"c", "d"}, {"a", "b"}},
	{{"a"}, nil},
	{nil, {"a"}},
	{nil, nil},
	{{"b", "a"}, {"b", "a"}},
}

func TestListsStay(t *testing.T) {
	for _, c := range calls {
		for _, pair := range pairs {
			a, b := newRoomy(pair[0]...), newRoomy(pair[1]...)
			wasA, wasB := slices.Clone(a.whole), slices.Clone(b.whole)
			first := c.call(a.items, b.items)
			if !slices.Equal(a.whole, wasA) || !slices.Equal(b.whole, wasB) {
				t.Errorf("P3.4: %s(%q, %q) changed what was handed in: %q, %q", c.name, pair[0], pair[1], a.whole, b.whole)
			}
			kept := slices.Clone(first)
			second := c.call(a.items, b.items)
			unlike(first)
			if !slices.Equal(a.whole, wasA) || !slices.Equal(b.whole, wasB) {
				t.Errorf("P3.4: %s(%q, %q): its answer is in what was handed in", c.name, pair[0], pair[1])
			}
			if !slices.Equal(second, kept) {
				t.Errorf("P3.4: %s(%q, %q): two answers share memory: %q", c.name, pair[0], pair[1], second)
			}
			unlike(a.whole)
			unlike(b.whole)
			if !slices.Equal(second, kept) {
				t.Errorf("P3.4: %s(%q, %q): its answer changed with what was handed in: %q", c.name, pair[0], pair[1], second)
			}
		}
	}
}

func TestHasLeavesItsList(t *testing.T) {
	l := newRoomy("b", "a", "b")
	was := slices.Clone(l.whole)
	if !paths.Has(l.items, "a") || paths.Has(l.items, "mark 1") {
		t.Error("P3.4: Has looked beside its list")
	}
	if !slices.Equal(l.whole, was) {
		t.Errorf("P3.4: Has changed its list: %q", l.whole)
	}
}

func TestOneListTwice(t *testing.T) {
	l := newRoomy("b", "a", "b")
	was := slices.Clone(l.whole)
	check(t, "P3.4", "Union(l, l)", paths.Union(l.items, l.items), []string{"a", "b"})
	check(t, "P3.4", "Meet(l, l)", paths.Meet(l.items, l.items), []string{"a", "b"})
	check(t, "P3.4", "Minus(l, l)", paths.Minus(l.items, l.items), nil)
	check(t, "P3.4", "Union(l, its beginning)", paths.Union(l.items, l.items[:1]), []string{"a", "b"})
	check(t, "P3.4", "l", l.whole, was)
}

// P3.5

func TestWhatFollows(t *testing.T) {
	some := lists([]string{"a/b", "", "a", "a-b", "c"}, 3)
	for _, a := range some {
		norm := paths.Norm(a)
		check(t, "P3.5", "Norm(Norm)", paths.Norm(norm), norm, a)
		heads := paths.Heads(a)
		for _, p := range heads {
			for _, q := range heads {
				if path.Above(p, q) {
					t.Errorf("P3.5: Heads(%q): %q is above %q", a, p, q)
				}
			}
		}
		for _, p := range a {
			if !slices.ContainsFunc(heads, func(h string) bool { return h == p || path.Above(h, p) }) {
				t.Errorf("P3.5: Heads(%q): %q is none of them, nor below one", a, p)
			}
		}
		for _, b := range some {
			meet := paths.Meet(a, b)
			check(t, "P3.5", "Union(Meet, Minus)", paths.Union(meet, paths.Minus(a, b)), norm, a, b)
			check(t, "P3.5", "Meet(b, a)", paths.Meet(b, a), meet, a, b)
		}
	}
}
