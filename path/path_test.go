package path_test

import (
	"slices"
	"strings"
	"testing"

	"copse/api"
	"copse/path"
)

func repeat(s string, n int) string { return strings.Repeat(s, n) }

// deep is a path of n pieces "a".
func deep(n int) string { return strings.TrimSuffix(repeat("a/", n), "/") }

// long is a text of four pieces and the given number of bytes, 90 of them in the last three.
func long(n int) string { return repeat("a", n-90) + repeat("/"+repeat("b", 29), 3) }

// texts are all of up to the given number of bytes of an alphabet.
func texts(alphabet string, most int) []string {
	all := []string{""}
	for from, n := 0, 0; n < most; n++ {
		to := len(all)
		for _, head := range all[from:to] {
			for i := range len(alphabet) {
				all = append(all, head+alphabet[i:i+1])
			}
		}
		from = to
	}
	return all
}

// piecesOf follows the chapter's word for pieces, byte by byte.
func piecesOf(p string) []string {
	if p == "" {
		return nil
	}
	list := []string{""}
	for i := range len(p) {
		if p[i] == '/' {
			list = append(list, "")
			continue
		}
		list[len(list)-1] += p[i : i+1]
	}
	return list
}

func commonPieces(a, b []string) []string {
	n := 0
	for n < len(a) && n < len(b) && a[n] == b[n] {
		n++
	}
	return a[:n]
}

func isAbove(a, b []string) bool {
	return len(a) < len(b) && slices.Equal(a, b[:len(a)])
}

// P2.1

func TestComponent(t *testing.T) {
	for _, s := range []string{"a", "a.b-C_9", "....", ".....", ".a", "a.", "..a", "a..", "-", "_", "0", "azAZ09._-", "TARGETS", "--", ".-", repeat("a", 32), repeat(".", 32)} {
		if !path.Component(s) {
			t.Errorf("P2.1: Component(%q): false", s)
		}
	}
	for _, s := range []string{"", ".", "..", "...", "/", "a/b", "a/", "/a", "a b", " ", "a*", "*", "a:b", "a\n", "\n", "a\x00", "\x00", "é", "a\xff", "\x80", repeat("a", 33), repeat("a", 31) + "é", repeat("a", 31) + "/", repeat("/", 32)} {
		if path.Component(s) {
			t.Errorf("P2.1: Component(%q): true", s)
		}
	}
}

func TestComponentOfEachByte(t *testing.T) {
	const allowed = "abcdefghijklmnopqrstuvwxyzABCDEFGHIJKLMNOPQRSTUVWXYZ0123456789._-"
	for c := range 256 {
		one := string([]byte{byte(c)})
		want := strings.Contains(allowed, one)
		for _, s := range []string{"x" + one, one + "x", "x" + one + "x"} {
			if path.Component(s) != want {
				t.Errorf("P2.1: Component(%q): %v", s, !want)
			}
		}
		if got := path.Valid("d/x" + one); got != want && one != "/" {
			t.Errorf("P2.1: Valid(%q): %v", "d/x"+one, got)
		}
	}
}

func TestValid(t *testing.T) {
	for _, p := range []string{"", "a", "a/b", "a/b/c", "a-b/c.d/e_f", "..../a", "a/TARGETS", deep(11), deep(12), repeat("a", 32), repeat("a", 32) + "/" + repeat("b", 32), long(119), long(120), deep(11) + "/" + repeat("b", 32)} {
		if !path.Valid(p) {
			t.Errorf("P2.1: Valid(%q): false", p)
		}
	}
	for _, p := range []string{"/", "//", "/a", "a/", "a//b", "a/../b", "../a", "a/..", ".", "..", "...", "a/.", "a/...", "./a", "a b", "a/b c", "a/b*", "a\\b", "//a", "a/\x00", "é", "a/é/b", deep(13), repeat("a", 33), "a/" + repeat("b", 33), repeat("b", 33) + "/a", long(121), "a" + long(120), deep(12) + "/", repeat("/", 5), repeat("a/", 70), repeat("a", 1<<20), repeat("/", 1<<20)} {
		if path.Valid(p) {
			t.Errorf("P2.1: Valid(%.140q): true", p)
		}
	}
}

func TestValidByPieces(t *testing.T) {
	for _, p := range texts("a./", 7) {
		want := true
		for _, piece := range piecesOf(p) {
			want = want && piece != "" && piece != "." && piece != ".." && piece != "..."
		}
		if path.Valid(p) != want {
			t.Errorf("P2.1: Valid(%q): %v", p, !want)
		}
	}
}

// P2.2

func TestCmp(t *testing.T) {
	for _, c := range []struct {
		a, b string
		want int
	}{
		{"a/b", "a-b", -1}, {"a", "a/b", -1}, {"b", "a/z", 1}, {"", "a", -1}, {"", "/", -1}, {"a/", "a", 1},
		{"", "", 0}, {"a", "a", 0}, {"a/b/c", "a/b/c", 0}, {"/", "/", 0}, {"a/", "a/", 0},
		{"a", "ab", -1}, {"a/z", "ab", -1}, {"a/b", "a.b", -1}, {"a/b", "a\x00b", -1}, {"a/b/c", "a/b-c", -1}, {"a", "b", -1},
		{"A", "a", -1}, {"Z", "a", -1}, {"-", ".", -1}, {".", "0", -1}, {"9", "A", -1}, {"Z", "_", -1}, {"_", "a", -1}, {"10", "9", -1},
		{"a/x/z", "a/y/a", -1}, {"a/", "a/b", -1}, {"/a", "a", -1}, {"//", "/a", -1}, {"a//b", "a/b", -1}, {"/", "//", -1}, {"\x00", "/", 1},
		{"a", "\x80", -1}, {"\x7f", "\xff", -1}, {"é", "\xff", -1}, {"z", "é", -1}, {"a/\x80", "a/\xfe\x00", -1},
	} {
		if got := path.Cmp(c.a, c.b); got != c.want {
			t.Errorf("P2.2: Cmp(%q, %q) = %d, want %d", c.a, c.b, got, c.want)
		}
		if got := path.Cmp(c.b, c.a); got != -c.want {
			t.Errorf("P2.2: Cmp(%q, %q) = %d, want %d", c.b, c.a, got, -c.want)
		}
	}
}

func TestCmpIsTheOrderOfThePieces(t *testing.T) {
	all := texts("/-a\x00", 4)
	for _, a := range all {
		for _, b := range all {
			want := slices.Compare(piecesOf(a), piecesOf(b))
			if got := path.Cmp(a, b); got != want {
				t.Errorf("P2.2: Cmp(%q, %q) = %d, want %d", a, b, got, want)
			}
		}
	}
}

// P2.3

func TestAbove(t *testing.T) {
	for _, c := range [][2]string{{"", "a"}, {"a", "a/b"}, {"a", "a/b/c"}, {"a/b", "a/b/c"}, {"", "/"}, {"", "a/b"}, {"a", "a/"}, {"/", "//"}, {"/", "//a"}, {"a/", "a//b"}, {"\xff", "\xff/\xff"}} {
		if !path.Above(c[0], c[1]) {
			t.Errorf("P2.3: Above(%q, %q): false", c[0], c[1])
		}
		if path.Above(c[1], c[0]) {
			t.Errorf("P2.3: Above(%q, %q): true", c[1], c[0])
		}
	}
	for _, c := range [][2]string{{"a", "a"}, {"a", "ab"}, {"a/b", "a"}, {"", ""}, {"a", "b"}, {"a", "b/a"}, {"a/b", "a/bc"}, {"a/b", "a/bc/d"}, {"a", "a-b/c"}, {"/", "/"}, {"/", "/a"}, {"a/", "a/b"}, {"a/", "a"}, {"b", "a/b"}, {"a", "A/b"}} {
		if path.Above(c[0], c[1]) {
			t.Errorf("P2.3: Above(%q, %q): true", c[0], c[1])
		}
	}
}

func TestCommon(t *testing.T) {
	for _, c := range [][3]string{
		{"a/b/c", "a/b/d", "a/b"}, {"a/b", "a/b", "a/b"}, {"a/b", "a/b/c", "a/b"}, {"ab", "ac", ""}, {"", "a", ""},
		{"", "", ""}, {"a", "a", "a"}, {"a", "b", ""}, {"a/x/c", "a/y/c", "a"}, {"a/bc/d", "a/bd/d", "a"}, {"ab/c", "a/c", ""},
		{"/", "/", "/"}, {"/", "/a", ""}, {"//", "//a", "/"}, {"//a", "//b", "/"}, {"", "/", ""}, {"a/", "a", "a"}, {"a/", "a/b", "a"}, {"a//b", "a//c", "a/"}, {"a/", "a/", "a/"}, {"\xff/a", "\xff/b", "\xff"},
	} {
		for _, ab := range [][2]string{{c[0], c[1]}, {c[1], c[0]}} {
			if got := path.Common(ab[0], ab[1]); got != c[2] {
				t.Errorf("P2.3: Common(%q, %q) = %q, want %q", ab[0], ab[1], got, c[2])
			}
		}
	}
}

func TestAboveAndCommonOfThePieces(t *testing.T) {
	all := texts("/ab", 5)
	for _, a := range all {
		for _, b := range all {
			x, y := piecesOf(a), piecesOf(b)
			if got, want := path.Above(a, b), isAbove(x, y); got != want {
				t.Errorf("P2.3: Above(%q, %q): %v", a, b, got)
			}
			if got, want := path.Common(a, b), strings.Join(commonPieces(x, y), "/"); got != want {
				t.Errorf("P2.3: Common(%q, %q) = %q, want %q", a, b, got, want)
			}
		}
	}
}

// P2.4

func TestDirAndBase(t *testing.T) {
	for _, c := range [][3]string{{"a/b/c", "a/b", "c"}, {"a", "", "a"}, {"", "", ""}, {"a/", "a", ""}, {"/", "", ""}, {"/a", "", "a"}, {"//", "/", ""}, {"a//b", "a/", "b"}, {"a/b", "a", "b"}, {"a/TARGETS", "a", "TARGETS"}, {"..", "", ".."}, {"a b/c*", "a b", "c*"}, {"\xff/\x80", "\xff", "\x80"}} {
		if got := path.Dir(c[0]); got != c[1] {
			t.Errorf("P2.4: Dir(%q) = %q, want %q", c[0], got, c[1])
		}
		if got := path.Base(c[0]); got != c[2] {
			t.Errorf("P2.4: Base(%q) = %q, want %q", c[0], got, c[2])
		}
	}
}

// P2.5

func TestJoin(t *testing.T) {
	for _, c := range [][3]string{
		{"", "a", "a"}, {"a", "", "a"}, {"", "", ""}, {"a/b", "c", "a/b/c"}, {"a", "b/c", "a/b/c"}, {"a", "a", "a/a"}, {"", "a/b", "a/b"}, {"a/b", "", "a/b"},
		{deep(11), "a", deep(12)}, {"a", deep(11), deep(12)}, {deep(6), deep(6), deep(12)}, {deep(12), "", deep(12)}, {"", deep(12), deep(12)},
		{long(118), "c", long(118) + "/c"}, {long(120), "", long(120)}, {"", long(120), long(120)}, {"c", long(118), "c/" + long(118)},
	} {
		if got, e := path.Join(c[0], c[1]); got != c[2] || e != api.OK {
			t.Errorf("P2.5: Join(%q, %q) = %q, %d, want %q", c[0], c[1], got, e, c[2])
		}
	}
	for _, c := range [][2]string{
		{"a", "/b"}, {"a/", ""}, {"a/", "b"}, {"/", "a"}, {"", "/"}, {"", "/a"}, {"/a", ""}, {"a", ".."}, {"..", "a"}, {".", ""}, {"", "..."}, {"a", "b c"}, {"a//b", "c"}, {"a", "b//c"}, {"*", "a"}, {"a", "*"},
		{deep(12), "a"}, {"a", deep(12)}, {deep(7), deep(6)}, {deep(13), ""}, {"", deep(13)},
		{long(119), "c"}, {long(118), "cc"}, {"c", long(119)}, {long(121), ""}, {"", long(121)}, {repeat("a", 33), "b"}, {"b", repeat("a", 33)},
	} {
		if got, e := path.Join(c[0], c[1]); got != "" || e != api.ErrPath {
			t.Errorf("P2.5: Join(%q, %q) = %q, %d, want ErrPath", c[0], c[1], got, e)
		}
	}
}

// P2.6

func TestDepthAndSplit(t *testing.T) {
	for _, c := range []struct {
		p    string
		want []string
	}{
		{"", nil}, {"a", []string{"a"}}, {"a/b", []string{"a", "b"}}, {"/", []string{"", ""}}, {"a/", []string{"a", ""}}, {"/a", []string{"", "a"}},
		{"//", []string{"", "", ""}}, {"a//b", []string{"a", "", "b"}}, {"a/b/a", []string{"a", "b", "a"}}, {"b c/*", []string{"b c", "*"}}, {"\xff/\x00", []string{"\xff", "\x00"}},
		{repeat("/", 999), make([]string, 1000)},
	} {
		if got := path.Split(c.p); !slices.Equal(got, c.want) {
			t.Errorf("P2.6: Split(%q) = %q, want %q", c.p, got, c.want)
		}
		if got := path.Depth(c.p); got != len(c.want) {
			t.Errorf("P2.6: Depth(%q) = %d, want %d", c.p, got, len(c.want))
		}
	}
	for _, p := range texts("/ab", 6) {
		want := piecesOf(p)
		if got := path.Split(p); !slices.Equal(got, want) || path.Depth(p) != len(want) {
			t.Errorf("P2.6: Split(%q) = %q, Depth %d, want %q", p, got, path.Depth(p), want)
		}
	}
}

// P2.7

// somePaths are paths of every shape that parts the order: beginnings of one another, bytes below and above "/".
func somePaths() []string {
	var all []string
	for _, p := range texts("a-/0", 5) {
		if path.Valid(p) {
			all = append(all, p)
		}
	}
	return append(all, deep(11), deep(12), "a/"+deep(9)+"/b", "....", "..../a", "A/a", "_")
}

func TestADirectoryAndAllBelowItAreOneRun(t *testing.T) {
	all := somePaths()
	slices.SortFunc(all, path.Cmp)
	all = slices.Compact(all)
	for i, p := range all {
		end := i + 1
		for end < len(all) && path.Above(p, all[end]) {
			end++
		}
		for j, q := range all {
			if below := isAbove(piecesOf(p), piecesOf(q)); below != (i < j && j < end) {
				t.Fatalf("P2.7: %q stands at %d, %q at %d, but the run of the first is up to %d", p, i, q, j, end)
			}
			if got, want := path.Cmp(p, q), sign(i-j); got != want {
				t.Fatalf("P2.7: Cmp(%q, %q) = %d, but they stand at %d and %d", p, q, got, i, j)
			}
		}
	}
}

func sign(n int) int { return max(-1, min(1, n)) }

func TestAboveIsToldByCommon(t *testing.T) {
	all := somePaths()
	for _, a := range all {
		for _, b := range all {
			common := path.Common(a, b)
			if path.Above(a, b) != (common == a && a != b) {
				t.Fatalf("P2.7: Above(%q, %q): %v, Common: %q", a, b, path.Above(a, b), common)
			}
			if !path.Valid(common) {
				t.Fatalf("P2.7: Common(%q, %q) = %q is no path", a, b, common)
			}
		}
	}
}

func TestCommonIsTheDeepestAboveBoth(t *testing.T) {
	orAbove := func(a, b string) bool { return a == b || path.Above(a, b) }
	var all []string
	for _, p := range texts("a-/", 4) {
		if path.Valid(p) {
			all = append(all, p)
		}
	}
	for _, a := range all {
		for _, b := range all {
			common := path.Common(a, b)
			if !orAbove(common, a) || !orAbove(common, b) {
				t.Fatalf("P2.7: Common(%q, %q) = %q is not above both", a, b, common)
			}
			for _, p := range all {
				if orAbove(p, a) && orAbove(p, b) && !orAbove(p, common) {
					t.Fatalf("P2.7: %q is above %q and %q, but not their Common %q", p, a, b, common)
				}
			}
		}
	}
}

func TestAPathIsItsDirAndItsBase(t *testing.T) {
	all := somePaths()
	for _, p := range all {
		if p == "" {
			continue
		}
		dir, base := path.Dir(p), path.Base(p)
		if got, e := path.Join(dir, base); got != p || e != api.OK {
			t.Errorf("P2.7: Join(%q, %q) = %q, %d, want %q", dir, base, got, e, p)
		}
		if !path.Above(dir, p) || path.Depth(dir)+1 != path.Depth(p) || !path.Component(base) {
			t.Errorf("P2.7: %q: Dir %q, Base %q", p, dir, base)
		}
		for _, q := range all {
			if path.Above(dir, q) && path.Above(q, p) {
				t.Errorf("P2.7: %q lies between %q and %q", q, dir, p)
			}
		}
	}
}

// P2.8

func TestListsAreNewMemory(t *testing.T) {
	for _, p := range []string{"a", "a/b", "/", deep(12), repeat("/", 99)} {
		want := piecesOf(p)
		first := path.Split(p)
		second := path.Split(p)
		all := first[:cap(first)]
		for i := range all {
			all[i] = "changed"
		}
		_ = append(first, "more")
		if !slices.Equal(second, want) || !slices.Equal(path.Split(p), want) {
			t.Errorf("P2.8: a change to one list of %q is seen in another", p)
		}
	}
}
