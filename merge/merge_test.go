package merge_test

import (
	"fmt"
	"math"
	"math/big"
	"math/rand"
	"slices"
	"strconv"
	"strings"
	"testing"

	"copse/api"
	"copse/closure"
	"copse/cone"
	"copse/merge"
	"copse/snap"
)

// The oracles: chapter 16's words, by chapter 2's pieces; sizes are added as numbers of any length.

func pieces(p string) []string {
	if p == "" {
		return nil
	}
	return strings.Split(p, "/")
}

func byPieces(a, b string) int { return slices.Compare(pieces(a), pieces(b)) }

func isAbove(a, b string) bool {
	x, y := pieces(a), pieces(b)
	return len(x) < len(y) && slices.Equal(x, y[:len(x)])
}

func isWithin(p, dir string) bool { return p == dir || isAbove(dir, p) }

func dirOf(p string) string {
	if i := strings.LastIndexByte(p, '/'); i >= 0 {
		return p[:i]
	}
	return ""
}

func common(a, b string) string {
	x, y := pieces(a), pieces(b)
	n := 0
	for n < len(x) && n < len(y) && x[n] == y[n] {
		n++
	}
	return strings.Join(x[:n], "/")
}

func areCones(k []string) bool {
	for i, c := range k {
		for _, d := range k[:i] {
			if byPieces(d, c) >= 0 || isAbove(d, c) || isAbove(c, d) {
				return false
			}
		}
	}
	return true
}

func viewOf(l []api.File, k []string) []api.File {
	var view []api.File
	for _, f := range l {
		d := dirOf(f.Path)
		if d == "" || slices.ContainsFunc(k, func(c string) bool { return isWithin(d, c) || isAbove(d, c) }) {
			view = append(view, f)
		}
	}
	return view
}

func costOf(l []api.File, k []string) int {
	sum := new(big.Int)
	for _, f := range viewOf(l, k) {
		sum.Add(sum, big.NewInt(int64(f.Size)))
	}
	if sum.Cmp(big.NewInt(math.MaxInt64)) > 0 {
		return math.MaxInt64
	}
	return int(sum.Int64())
}

func atOf(k []string, p string) []string {
	var merged []string
	in := false
	for _, c := range k {
		switch {
		case !isWithin(c, p):
			merged = append(merged, c)
		case !in:
			merged = append(merged, p)
			in = true
		}
	}
	return merged
}

func stepOf(l []api.File, k []string) []string {
	var best []string
	var bestCost int
	var bestAt string
	for i := 1; i < len(k); i++ {
		p := common(k[i-1], k[i])
		merged := atOf(k, p)
		cost, deeper := costOf(l, merged), len(pieces(p))-len(pieces(bestAt))
		if best == nil || cost < bestCost || cost == bestCost && (deeper > 0 || deeper == 0 && byPieces(p, bestAt) < 0) {
			best, bestCost, bestAt = merged, cost, p
		}
	}
	if best == nil {
		return slices.Clone(k)
	}
	return best
}

func downOf(l []api.File, k []string, budget int) []string {
	k = slices.Clone(k)
	for len(k) > budget {
		k = stepOf(l, k)
	}
	return k
}

// What is asked, and how it is held against what is wanted.

const (
	half  = 1 << 62 // the greatest size of a file: two of them are one more than MaxTotal
	total = math.MaxInt64
)

// files reads files, in their order, from words such as a/b=7; h is half, h-1 and h-2 are one and two less.
func files(s string) []api.File {
	var l []api.File
	for _, w := range strings.Fields(s) {
		p, size, _ := strings.Cut(w, "=")
		l = append(l, file(p, sizeOf(size)))
	}
	slices.SortFunc(l, func(a, b api.File) int { return byPieces(a.Path, b.Path) })
	return l
}

func sizeOf(s string) int {
	less, isHalf := strings.CutPrefix(s, "h")
	n, _ := strconv.Atoi(less)
	if isHalf {
		n += half
	}
	return n
}

func file(p string, size int) api.File {
	if p == "TARGETS" || strings.HasSuffix(p, "/TARGETS") {
		return api.File{Path: p, Text: strings.Repeat("#", size), Size: size}
	}
	return api.File{Path: p, Blob: 1, Size: size}
}

func words(s string) []string { return strings.Fields(s) }

// told writes what a test is about, cut short where it is very long.
func told(v any) string {
	s := fmt.Sprintf("%q", v)
	if l, ok := v.([]api.File); ok {
		var ws []string
		for _, f := range l {
			ws = append(ws, fmt.Sprintf("%s=%d", f.Path, f.Size))
		}
		s = strings.Join(ws, " ")
	}
	if len(s) > 2000 {
		s = s[:2000] + " ..."
	}
	return s
}

func cost(t *testing.T, l []api.File, k []string, want int) {
	t.Helper()
	if got, e := merge.Cost(l, k); got != want || e != api.OK {
		t.Fatalf("P16.1: Cost(%s, %s): %d, %d, want %d", told(l), told(k), got, e, want)
	}
}

func at(t *testing.T, k []string, p string, want []string) {
	t.Helper()
	if got, e := merge.At(k, p); e != api.OK || !slices.Equal(got, want) {
		t.Fatalf("P16.2: At(%s, %q): %s, %d, want %s", told(k), p, told(got), e, told(want))
	}
}

func step(t *testing.T, l []api.File, k, want []string) {
	t.Helper()
	if got, e := merge.Step(l, k); e != api.OK || !slices.Equal(got, want) {
		t.Fatalf("P16.3: Step(%s, %s): %s, %d, want %s", told(l), told(k), told(got), e, told(want))
	}
}

func down(t *testing.T, l []api.File, k []string, budget int, want []string) {
	t.Helper()
	if got, e := merge.Down(l, k, budget); e != api.OK || !slices.Equal(got, want) {
		t.Fatalf("P16.4: Down(%s, %s, %d): %s, %d, want %s", told(l), told(k), budget, told(got), e, told(want))
	}
}

func refuses(t *testing.T, what string, got []string, e, want api.Errno) {
	t.Helper()
	if e != want || len(got) != 0 {
		t.Fatalf("%s: %s, %d, want %d", what, told(got), e, want)
	}
}

// The examples of the chapter.

func example() []api.File { return files("a/x/1=5 a/y/2=7 a/z/3=100 b/4=1 r=3") }

func TestExample1(t *testing.T) {
	cost(t, example(), words("a/x"), 8)
	cost(t, example(), words("a"), 115)
	cost(t, example(), []string{""}, 116)
	cost(t, example(), nil, 3)
}

func TestExample2(t *testing.T) {
	step(t, example(), words("a/x a/y"), words("a"))
	cost(t, example(), words("a b"), 116)
	step(t, example(), words("a/x a/y b"), words("a b"))
	step(t, example(), words("a b"), []string{""})
	step(t, example(), words("b"), words("b"))
}

func TestExample3(t *testing.T) {
	l := files("a/x/1=5 a/y/2=7 b/4=1 r=3")
	cost(t, l, words("a b"), 16)
	cost(t, l, []string{""}, 16)
	step(t, l, words("a/x a/y b"), words("a b"))
}

func TestExample4(t *testing.T) {
	k := words("a/x a/y b")
	down(t, example(), k, 1, []string{""})
	down(t, example(), k, 2, words("a b"))
	down(t, example(), k, 3, k)
	down(t, example(), k, 4, k)
	got, e := merge.Down(example(), k, 0)
	refuses(t, "P16.4: Down with budget 0", got, e, api.ErrArg)
	got, e = merge.Down(example(), words("b a"), 0)
	refuses(t, "P16.4: Down of b, a with budget 0", got, e, api.ErrCone)
}

func TestExample5(t *testing.T) {
	k := words("a/x a/y b")
	at(t, k, "a", words("a b"))
	at(t, k, "a/x", k)
	at(t, k, "c", k)
	at(t, k, "", []string{""})
	got, e := merge.At(k, "a//")
	refuses(t, "P16.2: At a//", got, e, api.ErrPath)
}

// The errors, and which of them comes first.

var long = strings.Repeat("a/", 11) + "a"

// refused holds an error against what all three calls that have files answer.
func refused(t *testing.T, l []api.File, k []string, budget int, want api.Errno) {
	t.Helper()
	what := fmt.Sprintf("(%s, %s)", told(l), told(k))
	if got, e := merge.Cost(l, k); got != 0 || e != want {
		t.Fatalf("P16.1: Cost%s: %d, %d, want %d", what, got, e, want)
	}
	got, e := merge.Step(l, k)
	refuses(t, "P16.3: Step"+what, got, e, want)
	got, e = merge.Down(l, k, budget)
	refuses(t, fmt.Sprint("P16.4: Down", what, " with budget ", budget), got, e, want)
}

// goodCones and noCones are as cone.Valid tells them.
var (
	goodCones = [][]string{nil, {}, {""}, {"a"}, {"a/x", "a/y"}, {"a", "a.b", "b"}, {long}}
	noCones   = [][]string{{"b", "a"}, {"a", "a"}, {"a", "a/b"}, {"", "a"}, {"a", ""}, {"", ""}, {"/"}, {"a/"}, {"a//b"}, {"a", "b/"}, {"a", ".."}, {"a b"}, {"\xff"}, {long + "/a"}, {"ab", "a"}, {"a.b", "a/b"}}
	budgets   = []int{1, 2, 9, 0, -1, math.MaxInt, math.MinInt}
)

func TestFilesThatAreNoSnapshot(t *testing.T) {
	var tooMany []api.File
	for i := range 513 {
		tooMany = append(tooMany, file(fmt.Sprintf("f%03d", i), 1))
	}
	for _, k := range slices.Concat(goodCones, noCones) {
		for _, budget := range budgets {
			for _, l := range [][]api.File{
				{{Path: ""}}, {{Path: "/"}}, {{Path: "a/"}}, {{Path: "a//b"}}, {{Path: "a/../b"}}, {{Path: long + "/a"}},
				{{Path: "b"}, {Path: "a"}, {Path: "c/"}}, {{Path: "a", Size: -1}, {Path: "."}}, {{Path: "a"}, {Path: "a"}, {Path: ""}},
			} {
				refused(t, l, k, budget, api.ErrPath)
			}
			for _, l := range [][]api.File{
				{{Path: "b"}, {Path: "a"}}, {{Path: "a"}, {Path: "a"}}, {{Path: "a"}, {Path: "a/b"}}, {{Path: "a.c"}, {Path: "a/b"}},
				{{Path: "a", Text: "x"}}, {{Path: "a", Blob: -1}}, {{Path: "a", Size: -1}}, {{Path: "a", Size: half + 1}}, {{Path: "a", Size: math.MinInt}},
				{{Path: "TARGETS", Text: "x"}}, {{Path: "TARGETS", Blob: 1}}, {{Path: "z/f", Size: -1}},
			} {
				refused(t, l, k, budget, api.ErrSnap)
			}
		}
		refused(t, tooMany, k, 0, api.ErrSnap)
	}
	cost(t, tooMany[:512], nil, 512)
}

func TestTextsThatAreNoCones(t *testing.T) {
	for _, k := range noCones {
		for _, l := range [][]api.File{nil, example(), files("f=1"), files("a/1=h a/2=h")} {
			for _, budget := range budgets {
				refused(t, l, k, budget, api.ErrCone)
			}
		}
		for _, p := range []string{"", "a", "a/b", "z", "a//", "/", "..", long + "/a", "\xff"} {
			got, e := merge.At(k, p)
			refuses(t, fmt.Sprintf("P16.2: At(%q, %q)", k, p), got, e, api.ErrCone)
		}
	}
}

func TestAtOfNoPath(t *testing.T) {
	for _, k := range goodCones {
		for _, p := range []string{"/", "/a", "a/", "a//", "a//x", ".", "..", "...", "a/..", "a b", "a/*", "\xff", "é", "\x00", long + "/a", strings.Repeat("a", 33), strings.Repeat("a", 1<<20), strings.Repeat("a/", 1<<18)} {
			got, e := merge.At(k, p)
			refuses(t, fmt.Sprintf("P16.2: At(%q, %s)", k, told(p)), got, e, api.ErrPath)
		}
	}
}

func TestBudgetsBelowOne(t *testing.T) {
	for _, k := range goodCones {
		for _, l := range [][]api.File{nil, example(), files("a/x/1=h a/y/2=h a/z=h")} {
			for _, budget := range []int{0, -1, -2, math.MinInt, math.MinInt + 1, math.MinInt32} {
				got, e := merge.Down(l, k, budget)
				refuses(t, fmt.Sprintf("P16.4: Down(%s, %q, %d)", told(l), k, budget), got, e, api.ErrArg)
			}
		}
	}
}

// P16.1

func TestCost(t *testing.T) {
	all := "TARGETS=2 a.b/f=10 a/b/c/f=200 a/b/f=1000 a/b/z=7 a/b.c/f=30000 a/f=400000 ab/f=5000000 b/TARGETS=6 b/c/d/f=70000000 f=1"
	for _, c := range []struct {
		k    []string
		want int
	}{
		{nil, 3},
		{[]string{}, 3},
		{[]string{""}, 75431226},
		{words("a"), 431210},
		{words("a/b"), 401210},
		{words("a/b/c"), 401210},
		{words("a/b/c/d"), 401210}, // no directory of the snapshot: those above it are shown
		{words("a/b/y"), 401010},
		{words("a/x"), 400003},
		{words("a/f"), 400003}, // a file's path
		{words("x/y"), 3},      // nothing is above it but the root
		{words("f"), 3},
		{words("a.b"), 13},
		{words("ab"), 5000003},
		{words("b/c"), 70000009},
		{words("b/x"), 9},
		{words("a/b/c a/b/d"), 401210}, // what is above two is counted once
		{words("a/b.c b"), 70430009},
		{words("a/b a/b.c"), 431210},
		{words("a a.b ab b"), 75431226},
		{words("a.b ab x/y z"), 5000013},
	} {
		cost(t, files(all), c.k, c.want)
		cost(t, nil, c.k, 0)
		cost(t, []api.File{}, c.k, 0)
		cost(t, files("a/b/c/f=0 f=0"), c.k, 0)
	}
}

// TestCostOfGreatSizes: sums of MaxTotal, one above it and far above it.
func TestCostOfGreatSizes(t *testing.T) {
	for _, c := range []struct {
		l, k string
		want int
	}{
		{"a/1=h", "a", half},
		{"a/1=h a/2=h-2", "a", total - 1},
		{"a/1=h a/2=h-1", "a", total},
		{"a/1=h a/2=h", "a", total}, // one above
		{"a/1=h a/2=h-1 r=1", "a", total},
		{"a/1=h a/2=h-2 r=1", "a", total},
		{"a/1=h a/2=h-3 r=1", "a", total - 1},
		{"a/1=h a/2=h-1 TARGETS=1", "a", total},
		{"a/1=h a/2=h-3 TARGETS=1", "a", total - 1},
		{"a/1=h b/1=h-1", "a b", total},
		{"a/1=h b/1=h", "a b", total},
		{"a/1=h b/1=h c/1=5", "a b c", total},
		{"a/1=h b/1=h c/1=5", "c", 5}, // what is not shown does not count
		{"a/1=h b/1=h c/1=5", "a c", half + 5},
		{"a/1=h a/2=h a/3=h", "a", total},
		{"a/1=h a/2=h a/3=h a/4=h", "a", total}, // 2^64: nothing, in 64 bits
		{"a/1=h a/2=h a/3=h a/4=h a/5=3", "a", total},
		{"a/1=h a/2=h a/3=h a/4=h a/5=3", "b", 0},
		{"r1=h r2=h r3=h r4=h", "", total},
		{"a/1=h b/c/1=h-1 b/1=1", "a", half},
	} {
		cost(t, files(c.l), words(c.k), c.want)
	}
	var most []api.File
	for i := range 512 {
		most = append(most, file(fmt.Sprintf("d%d/f%03d", i/256, i), half))
	}
	cost(t, most, []string{""}, total)
	cost(t, most, words("d0"), total)
	cost(t, most, words("d2"), 0)
	cost(t, nil, words("d2"), 0)
}

// P16.2

func TestAt(t *testing.T) {
	root := []string{""}
	for _, c := range []struct {
		k    []string
		p    string
		want []string
	}{
		{nil, "", nil}, {nil, "a", nil}, {[]string{}, "", nil}, // no cones: none is p or below it
		{root, "", root}, {root, "a", root}, {root, "a/b", root},
		{words("a"), "", root}, {words("a"), "a", words("a")}, {words("a"), "a/b", words("a")}, {words("a"), "b", words("a")}, {words("b"), "a", words("b")},
		{words("a/b/c"), "a/b", words("a/b")}, {words("a/b/c"), "a", words("a")}, {words("a/b/c"), "a/b/c", words("a/b/c")}, {words("a/b/c"), "a/b/d", words("a/b/c")}, // above one alone
		{words("a/b c/d e"), "c", words("a/b c e")}, {words("a/b c/d e"), "a", words("a c/d e")}, {words("a/b c/d e"), "e", words("a/b c/d e")},
		{words("a/x a/y/z a/z b"), "a", words("a b")}, {words("a/x a/y/z a/z b"), "a/y", words("a/x a/y a/z b")}, {words("a/x a/y/z a/z b"), "", root},
		{words("0 a/x a/y b"), "a", words("0 a b")}, {words("0 a/x a/y"), "a", words("0 a")},
		{words("a/x a/y b"), "a/x/q", words("a/x a/y b")}, {words("a/x a/y b"), "a/z", words("a/x a/y b")}, {words("a/x a/y b"), "0", words("a/x a/y b")}, {words("a/x a/y b"), "bb", words("a/x a/y b")}, // apart, or below
		{words("a/x a.b/x ab/x b"), "a", words("a a.b/x ab/x b")}, {words("a/x a.b/x ab/x b"), "a.b", words("a/x a.b ab/x b")}, {words("a/x a.b/x ab/x b"), "a.", words("a/x a.b/x ab/x b")}, // a beginning that is not above
		{words("a/b a/b.c a/bc"), "a/b", words("a/b a/b.c a/bc")}, {words("a/b/x a/b.c a/bc"), "a/b", words("a/b a/b.c a/bc")},
		{words("A/x a/x"), "a", words("A/x a")}, {words("A/x a/x"), "A", words("A a/x")},
		{[]string{long}, "a", words("a")}, {[]string{long}, long, []string{long}}, {[]string{long, "b"}, dirOf(long), []string{dirOf(long), "b"}},
	} {
		at(t, c.k, c.p, c.want)
		if want := atOf(c.k, c.p); !slices.Equal(want, c.want) {
			t.Fatalf("the test's own tables part: %q and %q", want, c.want)
		}
	}
}

// conesOf are all cones of some directories, which are given in their order, and the root as cone.
func conesOf(dirs string) [][]string {
	all := [][]string{{""}}
	ds := words(dirs)
	for set := range 1 << len(ds) {
		var k []string
		for i, d := range ds {
			if set>>i&1 == 1 {
				k = append(k, d)
			}
		}
		if areCones(k) {
			all = append(all, k)
		}
	}
	return all
}

const fewDirs = "a a/b a/b/c a/b/d a/c a/c/d a.b a.b/c b b/c/d b/c/e b/d"

func TestAtOfAllCones(t *testing.T) {
	asked := append(words(fewDirs+" a/b/c/d a/b.c 0 ab b/c z TARGETS A a/b/b"), "")
	for _, k := range conesOf(fewDirs) {
		for _, p := range asked {
			at(t, k, p, atOf(k, p))
		}
	}
}

// P16.3

func TestStepOfFewerThanTwo(t *testing.T) {
	for _, k := range [][]string{nil, {}, {""}, {"a"}, {"a/x"}, {"q/w"}, {long}} {
		for _, l := range [][]api.File{nil, example(), files("a/1=h a/2=h a/3=h")} {
			step(t, l, k, k)
		}
	}
}

func TestStep(t *testing.T) {
	for _, c := range []struct {
		why, l, k string
		want      string // "." for the root
	}{
		{"the cheaper one", "a/p/1=9 a/q/1=9 a/z/1=50 b/p/1=1 b/q/1=1", "a/p a/q b/p b/q", "a/p a/q b"},
		{"the cheaper one, though the least is another", "a/z/1=3 b/z/1=2 c/z/1=3", "a/p a/q b/p b/q c/p c/q", "a/p a/q b c/p c/q"},
		{"the cheaper one, though another is deeper", "a/b/z/1=3 c/z/1=2", "a/b/p a/b/q c/p c/q", "a/b/p a/b/q c"},
		{"the cheapest is the last", "a/z/1=3 b/z/1=3 c/z/1=2", "a/p a/q b/p b/q c/p c/q", "a/p a/q b/p b/q c"},
		{"by one", "a/z/1=1001 b/z/1=1000", "a/p a/q b/p b/q", "a/p a/q b"},
		{"equal cost: the deeper one, though it is greater", "a/z/1=3 c/d/z/1=3", "a/p a/q c/d/p c/d/q", "a/p a/q c/d"},
		{"equal cost: the deeper one, though it is less", "c/d/z/1=3 e/z/1=3", "c/d/p c/d/q e/p e/q", "c/d e/p e/q"},
		{"equal cost and depth: the least", "a/z/1=3 b/z/1=3 c/z/1=3", "a/p a/q b/p b/q c/p c/q", "a b/p b/q c/p c/q"},
		{"equal cost and depth: the least, by pieces", "a/x/z/1=3 a.b/x/z/1=3", "a/x/p a/x/q a.b/x/p a.b/x/q", "a/x a.b/x/p a.b/x/q"},
		{"nothing hidden at all: the deepest", "", "a/p a/q b/c/d/p b/c/d/q c/d/p c/d/q", "a/p a/q b/c/d c/d/p c/d/q"},
		{"a candidate above another: the one below, if what is between is free", "a/b/1=1 a/b/x/1=2", "a/b/c a/b/d a/e", "a/b a/e"},
		{"a candidate above another one", "a/b/z/1=4 a/z/1=5", "a/b/c a/b/d a/e", "a/b a/e"},
		{"the files in a candidate itself are shown ahead of it", "a/1=1000 a/z/1=2 b/z/1=3", "a/p a/q b/p b/q", "a b/p b/q"},
		{"so are those above the cones in it", "a/p/1=1000 a/z/1=2 b/z/1=3", "a/p/x a/q b/p b/q", "a b/p b/q"},
		{"and those in and below the cones", "a/p/1=1000 a/p/x/1=1000 a/z/1=2 b/z/1=3", "a/p a/q b/p b/q", "a b/p b/q"},
		{"all cones below it give way", "a/z/1=2 b/z/1=3", "a/p a/q/r a/s a/t b/p b/q", "a b/p b/q"},
		{"also those whose neighbours meet deeper", "a/q/z/1=9 b/z/1=50", "a/p a/q/r a/q/s a/t b/p b/q", "a/p a/q a/t b/p b/q"},
		{"neighbours that meet in one place, apart from each other", "a/m/x/z/1=9 a/z/1=1 b/z/1=2", "a/l a/m/x/p a/m/x/q a/n b/p b/q", "a/l a/m/x/p a/m/x/q a/n b"},
		{"the root alone", "a/1=1 b/1=1", "a b", "."},
		{"the root, of all", "a/1=1 b/1=1 c/z/1=9", "a b c/d", "."},
		{"the root, though nothing is there", "", "a b c", "."},
		{"the root is above all others, so it is dearer or higher", "z/1=1", "a/p a/q b", "a b"},
		{"the root against one that costs as much", "a/z/1=1", "a/p a/q b", "a b"},
		{"beginnings that are not above: they meet in the root", "a/1=1 ab/1=2 c/1=9", "a ab", "."},
		{"so with a dot", "a/1=1 a.b/1=2 c/1=9", "a a.b", "."},
		{"so deeper", "x/a/1=1 x/ab/1=2 x/c/1=9 y/c/1=10", "x/a x/ab y/a y/ab", "x y/a y/ab"},
		{"so between others", "x/a/z/1=5 x/a.b/1=1 x/z/1=6", "x/a/p x/a/q x/a.b", "x/a x/a.b"},
		{"cones that are no directories", "a/z/1=5 b/z/1=4 a/1=9", "a/n1 a/n2 b/n1/x b/n2/y", "a/n1 a/n2 b"},
		{"sizes of zero", "a/z/1=0 a/z/2=0 b/z/1=1", "a/p a/q b/p b/q", "a b/p b/q"},
		{"manifests have sizes too", "a/z/TARGETS=5 b/z/1=4", "a/p a/q b/p b/q", "a/p a/q b"},
	} {
		want := words(c.want)
		if c.want == "." {
			want = []string{""}
		}
		if oracle := stepOf(files(c.l), words(c.k)); !slices.Equal(oracle, want) {
			t.Fatalf("%s: the test's own tables part: %q and %q", c.why, oracle, want)
		}
		t.Run(c.why, func(t *testing.T) { step(t, files(c.l), words(c.k), want) })
	}
}

// TestStepOfGreatCosts: costs above MaxTotal are equal to it, and to one another.
func TestStepOfGreatCosts(t *testing.T) {
	for _, c := range []struct{ why, l, k, want string }{
		{"just below MaxTotal and at it", "a/z/1=h a/z/2=h-1 b/z/1=h b/z/2=h-2", "a/p a/q b/p b/q", "a/p a/q b"},
		{"at it and one above: the least", "a/z/1=h a/z/2=h b/z/1=h b/z/2=h-1", "a/p a/q b/p b/q", "a b/p b/q"},
		{"at it and one above: the deeper one", "a/z/1=h a/z/2=h-1 b/c/z/1=h b/c/z/2=h", "a/p a/q b/c/p b/c/q", "a/p a/q b/c"},
		{"one above and far above: the least", "a/z/1=h a/z/2=h a/z/3=h b/z/1=h b/z/2=h", "a/p a/q b/p b/q", "a b/p b/q"},
		{"one above and far above: the deeper one", "a/z/1=h a/z/2=h b/c/z/1=h b/c/z/2=h b/c/z/3=h b/c/z/4=h", "a/p a/q b/c/p b/c/q", "a/p a/q b/c"},
		{"above by what is shown already: the deeper one", "a/z/1=1 b/c/z/1=h r1=h r2=h", "a/p a/q b/c/p b/c/q", "a/p a/q b/c"},
		{"above by what is shown already: the least", "a/z/1=9 b/z/1=1 r1=h r2=h", "a/p a/q b/p b/q", "a b/p b/q"},
		{"at it by what is shown already", "a/z/1=9 b/z/1=1 r1=h r2=h-1", "a/p a/q b/p b/q", "a b/p b/q"},
		{"one below it by what is shown already: one is free", "a/z/1=9 b/z/1=0 r1=h r2=h-2", "a/p a/q b/p b/q", "a/p a/q b"},
		{"one below it by what is shown already: none is free", "a/z/1=9 b/z/1=1 r1=h r2=h-2", "a/p a/q b/p b/q", "a b/p b/q"},
		{"2^64, which is nothing in 64 bits", "a/z/1=h a/z/2=h a/z/3=h a/z/4=h b/z/1=1", "a/p a/q b/p b/q", "a/p a/q b"},
		{"2^63, which is below nothing in 64 bits", "a/z/1=h a/z/2=h b/z/1=1", "a/p a/q b/p b/q", "a/p a/q b"},
		{"the root too: the deeper one", "a/z/1=h z/1=h z/2=h r=h", "a/p a/q b", "a b"},
	} {
		if oracle := stepOf(files(c.l), words(c.k)); !slices.Equal(oracle, words(c.want)) {
			t.Fatalf("%s: the test's own tables part: %q and %q", c.why, oracle, c.want)
		}
		t.Run(c.why, func(t *testing.T) { step(t, files(c.l), words(c.k), words(c.want)) })
	}
}

// P16.4

func TestDown(t *testing.T) {
	l := files("a/p/1=1 a/z/1=10 b/x/1=20 b/y/z/1=3 c/d/z/1=5 c/z/1=100 r=7 z/1=1000")
	k := words("a/p a/q b/y/p b/y/q b/z/p c/d/p c/d/q c/e")
	left := map[int][]string{
		1: {""},
		2: {""},
		3: words("a b c"),
		4: words("a b c/d c/e"),
		5: words("a b/y b/z/p c/d c/e"),
		6: words("a/p a/q b/y b/z/p c/d c/e"),
		7: words("a/p a/q b/y b/z/p c/d/p c/d/q c/e"),
		8: k,
	}
	for budget, want := range left {
		if oracle := downOf(l, k, budget); !slices.Equal(oracle, want) {
			t.Fatalf("the test's own tables part at %d: %q and %q", budget, oracle, want)
		}
		down(t, l, k, budget, want)
	}
	for _, budget := range []int{9, 100, math.MaxInt32, math.MaxInt32 + 1, math.MaxInt - 1, math.MaxInt} {
		down(t, l, k, budget, k)
	}
}

// TestDownGoesPastTheBudget: a step may take many cones at once.
func TestDownGoesPastTheBudget(t *testing.T) {
	for budget := 1; budget <= 4; budget++ {
		down(t, example(), words("a b c d e"), budget, []string{""})
	}
	down(t, example(), words("a b c d e"), 5, words("a b c d e"))
	down(t, example(), words("a/p a/q a/r a/s b"), 4, words("a b"))
	down(t, example(), words("a/p a/q a/r a/s b"), 2, words("a b"))
	down(t, example(), words("a/p a/q a/r a/s b"), 1, []string{""})
}

func TestDownOfFewCones(t *testing.T) {
	for _, l := range [][]api.File{nil, example(), files("a/1=h a/2=h a/3=h")} {
		for _, budget := range []int{1, 2, 3, math.MaxInt} {
			for _, k := range [][]string{nil, {}, {""}, {"a"}, {"q/w"}, {long}} {
				down(t, l, k, budget, k)
			}
		}
		down(t, l, words("a b"), 1, []string{""})
		down(t, l, words("a b"), 2, words("a b"))
		down(t, l, words("a/x a/y"), 1, words("a")) // not the root
		down(t, l, words("a/x/p a/x/q a/y"), 1, words("a"))
	}
}

// TestDownOfGreatCosts: once the cost is MaxTotal, all candidates are equal.
func TestDownOfGreatCosts(t *testing.T) {
	l := files("a/z/1=1 b/c/z/1=h b/c/z/2=h d/z/1=2 e/f/g/z/1=h")
	k := words("a/p a/q b/c/p b/c/q d/p d/q e/f/g/p e/f/g/q")
	down(t, l, k, 7, words("a b/c/p b/c/q d/p d/q e/f/g/p e/f/g/q"))
	down(t, l, k, 6, words("a b/c/p b/c/q d e/f/g/p e/f/g/q"))
	down(t, l, k, 5, words("a b/c/p b/c/q d e/f/g"))
	down(t, l, k, 4, words("a b/c d e/f/g"))
	down(t, l, k, 3, []string{""})
	l = append(l, file("r1", half), file("r2", half))
	down(t, l, k, 7, words("a/p a/q b/c/p b/c/q d/p d/q e/f/g"))
	down(t, l, k, 6, words("a/p a/q b/c d/p d/q e/f/g"))
	down(t, l, k, 5, words("a b/c d/p d/q e/f/g"))
	down(t, l, k, 4, words("a b/c d e/f/g"))
}

// TestDownCountsWhatWasShown: what a step has shown is no more in what a later one adds.
func TestDownCountsWhatWasShown(t *testing.T) {
	// a hides 50 of a/b and 8 of its own; c hides 55
	l := files("a/b/z/1=50 a/z/1=8 c/z/1=55")
	k := words("a/b/p a/b/q a/e c/p c/q")
	down(t, l, k, 4, words("a/b a/e c/p c/q"))
	down(t, l, k, 3, words("a c/p c/q"))
	down(t, l, k, 2, words("a c"))
	down(t, l, k, 1, []string{""})
	// sizes above MaxTotal that come down: a hides a/b's, which two steps show
	l = files("a/b/z/1=h-9 a/c/z/1=h-9 a/z/1=1 d/z/1=2")
	k = words("a/b/p a/b/q a/c/p a/c/q a/d d/p d/q")
	for budget := 1; budget <= 7; budget++ {
		down(t, l, k, budget, downOf(l, k, budget))
	}
}

// All of small worlds, and many of others.

func TestSmallWorlds(t *testing.T) {
	kinds := []string{"0", "1", "2", "h"}
	places := words("a/b/c/f a/b/z/f a/c/f a/z/f a.b/z/f b/c/z/f b/f")
	cones := conesOf(fewDirs)
	r := rand.New(rand.NewSource(1601))
	for range 400 {
		var l []api.File
		for _, p := range places {
			if n := r.Intn(5); n < len(kinds) {
				l = append(l, file(p, sizeOf(kinds[n])))
			}
		}
		k := cones[r.Intn(len(cones))]
		world(t, l, k)
	}
	l := files("a.b/z/f=3 a/b/c/f=1 a/b/z/f=2 a/c/f=4 a/z/f=2 b/c/z/f=3 b/f=1 r=1")
	for _, k := range cones {
		world(t, l, k)
		world(t, nil, k)
	}
}

// world holds all that is asked of files and cones against the oracles.
func world(t *testing.T, l []api.File, k []string) {
	t.Helper()
	cost(t, l, k, costOf(l, k))
	step(t, l, k, stepOf(l, k))
	for budget := 1; budget <= len(k)+1; budget++ {
		down(t, l, k, budget, downOf(l, k, budget))
	}
}

// anyPath is a path of few components, so that many are above, below and beside one another.
func anyPath(r *rand.Rand, depth int) string {
	var p []string
	for range 1 + r.Intn(depth) {
		p = append(p, []string{"a", "a.b", "ab", "b", "B"}[r.Intn(5)])
	}
	return strings.Join(p, "/")
}

// apart are some paths in their order, none above another.
func apart(r *rand.Rand, n, depth int, end string) []string {
	var ps []string
	for range n {
		p := anyPath(r, depth)
		if r.Intn(2) == 0 {
			p += end
		}
		if !slices.ContainsFunc(ps, func(q string) bool { return isWithin(p, q) || isAbove(p, q) }) {
			ps = append(ps, p)
		}
	}
	slices.SortFunc(ps, byPieces)
	return ps
}

// anySize is one of a few kinds, so that costs are often equal, or near MaxTotal.
func anySize(r *rand.Rand, kind int) int {
	switch kind {
	case 0:
		return r.Intn(3)
	case 1:
		return r.Intn(1000)
	case 2:
		return half - r.Intn(2)
	case 3:
		return []int{0, 1, half / 4, half / 2, half - 1, half}[r.Intn(6)]
	}
	return half / 8
}

func anyFiles(r *rand.Rand, n, depth int) []api.File {
	var l []api.File
	kind := r.Intn(5)
	for _, p := range apart(r, n, depth, "/f") {
		l = append(l, file(p, anySize(r, kind)))
	}
	return l
}

func TestAnyWorlds(t *testing.T) {
	r := rand.New(rand.NewSource(1602))
	merged := 0
	for range 1500 {
		depth := 1 + r.Intn(5)
		l, k := anyFiles(r, r.Intn(40), depth), apart(r, r.Intn(14), depth, "/p")
		if len(k) > 2 {
			merged++
		}
		cost(t, l, k, costOf(l, k))
		p := anyPath(r, depth)
		at(t, k, p, atOf(k, p))
		step(t, l, k, stepOf(l, k))
		want := slices.Clone(k)
		for {
			down(t, l, k, max(len(want), 1), want)
			if len(want) < 2 {
				break
			}
			next := stepOf(l, want)
			if len(next) < len(want)-1 { // a budget that is passed by
				down(t, l, k, len(want)-1, next)
			}
			want = next
		}
	}
	if merged < 700 {
		t.Errorf("the test has only %d worlds of more than two cones", merged)
	}
}

// numbered are so many directories that are cones together, some in each directory above them.
func numbered(n, each int) []string {
	var k []string
	for i := range n {
		k = append(k, fmt.Sprintf("d%05d/%05d", i/each, i%each))
	}
	return k
}

// TestMany: more cones than there can be files.
func TestMany(t *testing.T) {
	var l []api.File
	for i := range 512 {
		l = append(l, file(fmt.Sprintf("d%05d/z/f", i), 1000-i))
	}
	k := numbered(20000, 1000)
	cost(t, l, k, 0)
	at(t, k, "d00003", slices.Concat(k[:3000], []string{"d00003"}, k[4000:]))
	at(t, k, "", []string{""})
	at(t, k, "d00003/z", k)
	step(t, l, k, append(slices.Clone(k[:19000]), "d00019")) // the cheapest is the last
	down(t, l, k, 20000, k)
	down(t, l, k, 18002, slices.Concat(k[:18000], []string{"d00018", "d00019"}))
	down(t, l, k, 1, []string{""})
	pairs := numbered(4000, 2)
	merged := append(slices.Clone(pairs[:1024]), directories(512, 2000)...) // where nothing is hidden
	down(t, l, pairs, len(merged), merged)
	down(t, l, pairs, len(merged)-1, append(slices.Clone(pairs[:1022]), directories(511, 2000)...)) // then the cheapest one
	down(t, l, pairs, 1, []string{""})
}

func directories(from, to int) []string {
	var ds []string
	for i := from; i < to; i++ {
		ds = append(ds, fmt.Sprintf("d%05d", i))
	}
	return ds
}

// TestFullSnapshot: as many files as there may be, each in a cone of its own, as deep as they may be.
func TestFullSnapshot(t *testing.T) {
	var l []api.File
	var k []string
	for i := range 512 {
		var p []string
		for bit := range 11 {
			p = append(p, string('a'+rune(i>>max(8-bit, 0)&1)))
		}
		k = append(k, strings.Join(p, "/")+fmt.Sprint(i))
		l = append(l, file(k[i]+"/f", half))
	}
	slices.SortFunc(k, byPieces)
	slices.SortFunc(l, func(a, b api.File) int { return byPieces(a.Path, b.Path) })
	if e := snap.Valid(l); e != api.OK || !areCones(k) {
		t.Fatalf("the test's own files are no snapshot: %d", e)
	}
	cost(t, l, k, total)
	got, e := merge.Down(l, k, 1)
	if e != api.OK || !slices.Equal(got, []string{""}) {
		t.Fatalf("P16.4: %q, %d", got, e)
	}
	follows(t, l, k, 100)
	follows(t, l, k, 511)
}

// P16.6

// withRoom is a list with spare room behind it, and both as one list.
func withRoom[T any](items []T, mark T) (list, whole []T) {
	whole = append(slices.Clone(items), mark, mark, mark, mark)
	return whole[:len(items)], whole
}

// fill writes over a list and its spare room.
func fill[T any](l []T, mark T) {
	l = l[:cap(l)]
	for i := range l {
		l[i] = mark
	}
}

const markText = "mark/mark/mark"

var markFile = api.File{Path: "mark/mark", Text: "mark", Blob: -1, Size: -2}

// call is one of those that answer lists.
type call struct {
	what string
	ask  func(l []api.File, k []string) ([]string, api.Errno)
}

func calls() []call {
	var all []call
	for _, p := range []string{"", "a", "a/x", "a/x/q", "b", "c", "mark", "a//"} {
		all = append(all, call{"At " + p, func(l []api.File, k []string) ([]string, api.Errno) { return merge.At(k, p) }})
	}
	all = append(all, call{"Step", merge.Step})
	for _, budget := range []int{0, 1, 2, 3, 4, 9, math.MaxInt} {
		all = append(all, call{fmt.Sprint("Down to ", budget), func(l []api.File, k []string) ([]string, api.Errno) { return merge.Down(l, k, budget) }})
	}
	return all
}

var memoryCones = [][]string{
	nil, {""}, {"a"}, {"b"}, {"a/x", "a/y"}, {"a/x", "a/y", "b"}, {"a/x", "a/y", "b", "c/d"}, {"a", "b", "c", "mark"}, {"mark/mark"},
	{"b", "a"}, {"a", "a/x"}, {"/"}, {"", "a"},
}

func memoryFiles() [][]api.File {
	return [][]api.File{nil, example(), files("r=1"), files("a/z/f=h b/f=h mark/f=h"), {{Path: "b"}, {Path: "a"}}, {{Path: "/"}}}
}

func TestWhatIsHandedInStays(t *testing.T) {
	for _, c := range calls() {
		for _, ks := range memoryCones {
			for _, fs := range memoryFiles() {
				k, texts := withRoom(ks, markText)
				l, whole := withRoom(fs, markFile)
				hadTexts, hadFiles := slices.Clone(texts), slices.Clone(whole)
				want, wantErr := c.ask(slices.Clip(slices.Clone(fs)), slices.Clip(slices.Clone(ks)))
				got, e := c.ask(l, k)
				if e != wantErr || !slices.Equal(got, want) { // what the spare room has plays no part
					t.Fatalf("P16.6: %s of %s, %q: %q, %d, want %q, %d", c.what, told(fs), ks, got, e, want, wantErr)
				}
				if !slices.Equal(texts, hadTexts) || !slices.Equal(whole, hadFiles) {
					t.Fatalf("P16.6: %s of %s, %q changed what it was given: %q, %s", c.what, told(fs), ks, texts, told(whole))
				}
				fill(got, markText)
				if !slices.Equal(texts, hadTexts) || !slices.Equal(whole, hadFiles) {
					t.Fatalf("P16.6: %s of %s, %q: the answer is in what was given: %q", c.what, told(fs), ks, texts)
				}
			}
		}
	}
}

func TestCostChangesNothing(t *testing.T) {
	for _, ks := range memoryCones {
		for _, fs := range memoryFiles() {
			k, texts := withRoom(ks, markText)
			l, whole := withRoom(fs, markFile)
			hadTexts, hadFiles := slices.Clone(texts), slices.Clone(whole)
			first, e1 := merge.Cost(l, k)
			second, e2 := merge.Cost(slices.Clip(slices.Clone(fs)), slices.Clip(slices.Clone(ks)))
			if first != second || e1 != e2 || !slices.Equal(texts, hadTexts) || !slices.Equal(whole, hadFiles) {
				t.Fatalf("P16.6: Cost(%s, %q): %d, %d and %d, %d, and left %q, %s", told(fs), ks, first, e1, second, e2, texts, told(whole))
			}
		}
	}
}

func TestAnswersAreNew(t *testing.T) {
	for _, c := range calls() {
		for _, ks := range memoryCones {
			for _, fs := range memoryFiles() {
				newAnswers(t, c, fs, ks)
			}
		}
	}
}

func newAnswers(t *testing.T, c call, fs []api.File, ks []string) {
	t.Helper()
	k, texts := withRoom(ks, markText)
	l, whole := withRoom(fs, markFile)
	first, _ := c.ask(l, k)
	second, _ := c.ask(l, k)
	want := slices.Clone(second)
	fill(first, markText)
	_ = append(first, "more")
	if !slices.Equal(second, want) {
		t.Fatalf("P16.6: %s of %s, %q: two answers share memory: %q", c.what, told(fs), ks, second)
	}
	longer := append(second, "more")
	if third, _ := c.ask(l, k); !slices.Equal(third, want) {
		t.Fatalf("P16.6: %s of %s, %q: the next answer is %q, want %q", c.what, told(fs), ks, third, want)
	}
	fill(whole, markFile)
	fill(texts, markText)
	if !slices.Equal(second, want) || !slices.Equal(longer, append(slices.Clone(want), "more")) {
		t.Fatalf("P16.6: %s of %s, %q: the answer changed with what was handed in: %q", c.what, told(fs), ks, longer)
	}
}

// TestNothingIsKept: an answer hangs on its arguments, not on the calls ahead of it.
func TestNothingIsKept(t *testing.T) {
	l, k := example(), words("a/x a/y b")
	for range 3 {
		down(t, l, k, 2, words("a b"))
		got, e := merge.Down(l, words("b a"), 2)
		refuses(t, "P16.4: Down of b, a", got, e, api.ErrCone)
		cost(t, l, k, 16)
	}
	k[2] = "a/z"
	step(t, l, k, words("a"))
	at(t, k, "a/z", words("a/x a/y a/z"))
	cost(t, l, k, 115)
	l[0].Size = 6
	cost(t, l, k, 116)
	l[0].Path = "0"
	cost(t, l, k, 116)
	k[0] = "0"
	step(t, l, k, words("0 a"))
}

// P16.5

// wider: is each of k one of these cones, or below one?
func wider(k, cones []string) bool {
	return !slices.ContainsFunc(k, func(c string) bool {
		return !slices.ContainsFunc(cones, func(d string) bool { return isWithin(c, d) })
	})
}

// hold holds what chapter 16 says of cones that Step or Down made of k.
func hold(t *testing.T, what string, l []api.File, k, made []string) {
	t.Helper()
	if e := cone.Valid(made); e != api.OK {
		t.Fatalf("P16.5: %s of %s, %s: %s are no cones", what, told(l), told(k), told(made))
	}
	if !wider(k, made) {
		t.Fatalf("P16.5: %s of %s, %s: %s leave one out", what, told(l), told(k), told(made))
	}
	had, _ := cone.View(l, k)
	has, e := cone.View(l, made)
	seen := map[api.File]int{}
	for _, f := range has {
		seen[f]++
	}
	if e != api.OK || slices.ContainsFunc(had, func(f api.File) bool { return seen[f] == 0 }) {
		t.Fatalf("P16.5: %s of %s, %s: %s hide a file that was shown", what, told(l), told(k), told(made))
	}
	before, _ := merge.Cost(l, k)
	if after, e := merge.Cost(l, made); e != api.OK || after < before {
		t.Fatalf("P16.5: %s of %s, %s: the cost of %s is %d, it was %d", what, told(l), told(k), told(made), after, before)
	}
}

func follows(t *testing.T, l []api.File, k []string, budget int) {
	t.Helper()
	once, e := merge.Step(l, k)
	if e != api.OK {
		t.Fatalf("P16.5: Step(%s, %s): %d", told(l), told(k), e)
	}
	hold(t, "Step", l, k, once)
	if len(k) > 1 && len(once) >= len(k) || len(k) < 2 && !slices.Equal(once, k) {
		t.Fatalf("P16.5: Step(%s, %s): %s are not fewer", told(l), told(k), told(once))
	}
	low, e := merge.Down(l, k, budget)
	if e != api.OK {
		t.Fatalf("P16.5: Down(%s, %s, %d): %d", told(l), told(k), budget, e)
	}
	hold(t, fmt.Sprint("Down to ", budget), l, k, low)
	switch {
	case len(low) > budget:
		t.Fatalf("P16.5: Down(%s, %s, %d): %s are too many", told(l), told(k), budget, told(low))
	case budget >= len(k) && !slices.Equal(low, k):
		t.Fatalf("P16.5: Down(%s, %s, %d): %s, want k", told(l), told(k), budget, told(low))
	case len(k) > 0 && len(low) == 0:
		t.Fatalf("P16.5: Down(%s, %s, %d): none", told(l), told(k), budget)
	}
}

func TestWhatFollows(t *testing.T) {
	r := rand.New(rand.NewSource(1603))
	for range 1500 {
		depth := 1 + r.Intn(6)
		l, k := anyFiles(r, r.Intn(60), depth), apart(r, r.Intn(20), depth, "/p")
		for _, budget := range []int{1, 1 + r.Intn(6), len(k) + 1, max(len(k), 1), max(len(k)-1, 1)} {
			follows(t, l, k, budget)
		}
	}
	for _, k := range conesOf(fewDirs) {
		for _, budget := range []int{1, 2, math.MaxInt} {
			follows(t, example(), k, budget)
			follows(t, nil, k, budget)
		}
	}
}

// TestDownIsStepAgainAndAgain: also a way down in parts is the way down.
func TestDownIsStepAgainAndAgain(t *testing.T) {
	r := rand.New(rand.NewSource(1604))
	for range 1000 {
		depth := 2 + r.Intn(5)
		l, k := anyFiles(r, r.Intn(60), depth), apart(r, 2+r.Intn(25), depth, "/p")
		budget := 1 + r.Intn(len(k))
		want := k
		for len(want) > budget {
			next, e := merge.Step(l, want)
			if e != api.OK || len(next) >= len(want) {
				t.Fatalf("P16.5: Step(%s, %q): %q, %d", told(l), want, next, e)
			}
			want = next
		}
		down(t, l, k, budget, want)
		part, _ := merge.Down(l, k, budget+r.Intn(3))
		down(t, l, part, budget, want)
	}
}

// TestCoversOfBuilds: the cover of a closure, merged down: the closure is the same under it.
func TestCoversOfBuilds(t *testing.T) {
	manifest := func(p, text string) api.File { return api.File{Path: p, Text: text, Size: len(text)} }
	l := []api.File{
		manifest("a/p/TARGETS", "target a { srcs = [x.c] deps = [//a/q:b, //c/d/r:c] see = [public] }"),
		{Path: "a/p/x.c", Size: 5},
		manifest("a/q/TARGETS", "target b { srcs = [*.c] see = [public] }"),
		{Path: "a/q/y.c", Size: 5},
		{Path: "a/z/big", Size: 5000},
		manifest("c/d/r/TARGETS", "target c { srcs = [s/*.h] deps = [//c/d/t:d] see = [public] }"),
		{Path: "c/d/r/s/1.h", Size: 1},
		manifest("c/d/t/TARGETS", "target d { srcs = [] see = [public] }"),
		{Path: "c/d/u/small", Size: 50},
		{Path: "e/f", Size: 7},
	}
	labels := []api.Label{{Pkg: "a/p", Name: "a"}}
	ps, f := closure.Of(l, labels)
	if f.Code != api.OK {
		t.Fatalf("no build: %+v", f)
	}
	cover := cone.Cover(ps)
	for budget, want := range map[int][]string{4: cover, 3: words("a/p a/q c/d"), 2: words("a c/d"), 1: {""}} {
		down(t, l, cover, budget, want)
		view, _ := cone.View(l, want)
		if again, f := closure.Of(view, labels); f.Code != api.OK || !slices.Equal(again, ps) {
			t.Errorf("P16.5: under %q the closure is %q, %+v, want %q", want, again, f, ps)
		}
	}
}
