package glob_test

import (
	"math/rand"
	"regexp"
	"slices"
	"strings"
	"testing"

	"copse/api"
	"copse/glob"
)

func repeat(s string, n int) string { return strings.Repeat(s, n) }

// deepPath is a path of n pieces, longPath one of n bytes (at least 92) in four.
func deepPath(n int) string { return strings.TrimSuffix(repeat("a/", n), "/") }

func longPath(n int) string { return repeat("a", n-90) + repeat("/"+repeat("b", 29), 3) }

// words are all texts of at most so many of the parts.
func words(most int, parts ...string) []string {
	l := []string{""}
	for from := 0; most > 0; most-- {
		to := len(l)
		for _, s := range l[from:to] {
			for _, p := range parts {
				l = append(l, s+p)
			}
		}
		from = to
	}
	return l
}

// at are files that differ by more than their paths, so that one cannot be taken for another.
func at(ps ...string) []api.File {
	var l []api.File
	for i, p := range ps {
		l = append(l, api.File{Path: p, Text: repeat("x", i%3), Blob: i + 1, Size: 10 * i})
	}
	return l
}

// only are those of the files whose places are named.
func only(l []api.File, places ...int) []api.File {
	var some []api.File
	for _, i := range places {
		some = append(some, l[i])
	}
	return some
}

// The oracle: the chapter's words, by regular expressions and by trying all
// that may stand in a star's place.

var (
	component = regexp.MustCompile(`\A[a-zA-Z0-9._-]{1,32}\z`)
	starred   = regexp.MustCompile(`\A[a-zA-Z0-9._-]*\*[a-zA-Z0-9._-]*\z`)
	dots      = regexp.MustCompile(`\A\.{1,3}\z`)
)

func isPath(p string) bool {
	l := strings.Split(p, "/")
	for _, c := range l {
		if p != "" && (!component.MatchString(c) || dots.MatchString(c)) {
			return false
		}
	}
	return len(p) <= 120 && len(l) <= 12
}

// ends are a text's directory and its last piece.
func ends(p string) (dir, last string) {
	l := strings.Split(p, "/")
	return strings.Join(l[:len(l)-1], "/"), l[len(l)-1]
}

func isPattern(s string) bool { return len(s) <= 32 && starred.MatchString(s) }

func isLiteral(s string) bool {
	_, last := ends(s)
	return s != "" && isPath(s) && last != "TARGETS"
}

func isGlob(s string) bool {
	dir, last := ends(s)
	if strings.Contains(s, "/") && (dir == "" || !isPath(dir)) {
		return false
	}
	return isPattern(last) && len(s) <= 120 && strings.Count(s, "/") <= 11
}

// fits tries every part of the name in the star's place that is of such a length.
func fits(pattern, name string) bool {
	more := len(name) - (len(pattern) - 1)
	if !isPattern(pattern) || more < 0 {
		return false
	}
	for to := more; to <= len(name); to++ {
		if strings.Replace(pattern, "*", name[to-more:to], 1) == name {
			return true
		}
	}
	return false
}

func joined(pkg, src string) string {
	if pkg == "" {
		return src
	}
	return pkg + "/" + src
}

func expanded(l []api.File, pkg, src string) ([]api.File, bool) {
	whole := joined(pkg, src)
	literal, star := isLiteral(whole), isGlob(whole)
	if !isPath(pkg) || !isLiteral(src) && !isGlob(src) || !literal && !star {
		return nil, false
	}
	dir, last := ends(whole)
	var some []api.File
	for _, f := range l {
		d, name := ends(f.Path)
		if literal && f.Path == whole && some == nil || star && d == dir && name != "TARGETS" && fits(last, name) {
			some = append(some, f)
		}
	}
	return some, star || some != nil
}

// Checks.

func checkText(t *testing.T, s string, valid, star bool) {
	t.Helper()
	if glob.Valid(s) != valid {
		t.Errorf("P10.1: Valid(%q) = %v", s, !valid)
	}
	if glob.Star(s) != star {
		t.Errorf("P10.1: Star(%q) = %v", s, !star)
	}
}

func checkMatch(t *testing.T, pattern, name string, want bool) {
	t.Helper()
	if glob.Match(pattern, name) != want {
		t.Errorf("P10.2: Match(%q, %q) = %v", pattern, name, !want)
	}
}

func checkExpand(t *testing.T, l []api.File, pkg, src string, want []api.File, ok bool) {
	t.Helper()
	if got, is := glob.Expand(l, pkg, src); !slices.Equal(got, want) || is != ok {
		t.Errorf("P10.3: Expand(%v, %q, %q) = %v, %v, want %v, %v", l, pkg, src, got, is, want, ok)
	}
}

func checkOracle(t *testing.T, l []api.File, pkg, src string) {
	t.Helper()
	want, ok := expanded(l, pkg, src)
	checkExpand(t, l, pkg, src, want, ok)
}

// P10.1

func TestExample1(t *testing.T) {
	for _, s := range []string{"a.c", "x/a.c"} {
		checkText(t, s, true, false)
	}
	for _, s := range []string{"*", "x/*.c", "a*", ".*", "*TARGETS", "T*"} {
		checkText(t, s, true, true)
	}
	for _, s := range []string{"", "/a", "a/", "a//b", "*/a", "a**", "x/TARGETS", "TARGETS", "a b", "..", "x/..", "**"} {
		checkText(t, s, false, false)
	}
}

func literals() []string {
	return []string{
		"a", "Z", "0", "-", "_", "....", ".a", "a.", "..a", "a/b", "a/b/c", "a.b-C_9/x", "target", "targets", "TARGET", "TARGETSS", "aTARGETS", "TARGETSa", "TARGETS.c",
		"TARGETS/a", "TARGETS/TARGETS/a", "x/TARGETS/a", "x/aTARGETS", "x/TARGETSa", "x/targets", "x/TARGET",
		repeat("a", 32), "x/" + repeat("a", 32), repeat("a", 32) + "/x", deepPath(12), longPath(120), deepPath(11) + "/" + repeat("a", 32),
	}
}

func globs() []string {
	return []string{
		"*", "a*", "*a", "a*b", ".*", "*.", "..*", "*..", "...*", "*...", "....*", ".*.", "-*_", "A*Z", "0*9", "T*", "*S", "TARGETS*", "*TARGETS", "TAR*GETS", "TARGET*S", "x/TARGETS*", "x/*TARGETS",
		"x/*", "x/y/*.c", "x/a*b", "TARGETS/*", "x/TARGETS/*", "..../*", "a.b-C_9/*",
		repeat("a", 31) + "*", "*" + repeat("a", 31), repeat("a", 16) + "*" + repeat("b", 15), "x/*" + repeat("a", 31), repeat("a", 32) + "/*",
		deepPath(11) + "/*", longPath(118) + "/*", deepPath(11) + "/" + repeat("a", 31) + "*", longPath(92) + "/" + repeat("a", 26) + "*",
	}
}

func neither() []string {
	return []string{
		"", "/", "//", "///", "/a", "//a", "a/", "a//", "a//b", "a/b/", "/a/b", "/*", "//*", "*/", "*//", "a//*", "a/*/", "/a/*", "/x*", "x*/",
		"*/a", "*/*", "a*/b", "a/*/b", "*/a/b", "*/b*", "a*/*", "a/*b/c",
		"**", "***", "a**", "**a", "*a*", "a*b*", "*a*b", "a/**", "a/*b*", "a/b**", "**/a", "**/*",
		"TARGETS", "x/TARGETS", "x/y/TARGETS", "TARGETS/TARGETS", "/TARGETS", "TARGETS/",
		".", "..", "...", "./a", "../a", ".../a", "a/.", "a/..", "a/...", "a/./b", "a/../b", "a/.../b", "./*", "../*", ".../*", "a/../*", "a/./*", "a/.../*",
		"a b", " a", "a ", "a b*", " *", "* ", "a b/*", "a/b c", "a\n", "*\n", "\n*", "a\x00", "*\x00", "ä", "ä*", "*ä", "ä/*", "a/ä", "\xff", "*\xff", "\xff*", "\xff/*", "a:b", "*:", ":a", "//a:b", "a\\b", "a\\*", "?", "a?*", "[a]*", "{a,b}", "a,*", "a=*", "~", "+*",
		repeat("a", 33), "x/" + repeat("a", 33), repeat("a", 33) + "/x", repeat("a", 32) + "*", "*" + repeat("a", 32), repeat("a", 16) + "*" + repeat("b", 16), "x/*" + repeat("a", 32), repeat("a", 33) + "/*", repeat("*", 32),
		deepPath(13), deepPath(12) + "/*", deepPath(12) + "/a*", longPath(121), longPath(119) + "/*", longPath(120) + "/*", longPath(92) + "/" + repeat("a", 27) + "*", longPath(92) + "/" + repeat("a", 28),
		repeat("a", 100000), repeat("*", 100000), repeat("a/", 100000) + "*", repeat("/", 100000), repeat("a*/", 100000), repeat("*/", 100000) + "a", "*" + repeat("a", 100000), repeat("a", 100000) + "/*",
	}
}

func TestTextsInTables(t *testing.T) {
	for _, s := range literals() {
		checkText(t, s, true, false)
	}
	for _, s := range globs() {
		checkText(t, s, true, true)
	}
	for _, s := range neither() {
		checkText(t, s, false, false)
	}
}

func TestEveryByteOfAText(t *testing.T) {
	for c := range 256 {
		b := string([]byte{byte(c)})
		good := component.MatchString(b)
		checkText(t, "a"+b+"a", good || b == "*" || b == "/", b == "*")
		checkText(t, "x/a"+b, good || b == "*", b == "*")
		checkText(t, "x/"+b+"a", good || b == "*", b == "*")
		checkText(t, "x"+b+"/a", good, false)
		checkText(t, b+"x/a", good, false)
		checkText(t, b, good && b != "." || b == "*", b == "*")
		for _, s := range []string{b + "*", "*" + b, "a" + b + "*", "*" + b + "a", "x/" + b + "*", "x/*" + b} {
			want := good || s == "a/*"
			checkText(t, s, want, want)
		}
		for _, s := range []string{"x" + b + "/*", b + "x/*", "x/" + b + "y/*.c"} {
			checkText(t, s, good, good)
		}
		checkText(t, "x"+b+"y/*.c", good || b == "/", good || b == "/")
		checkText(t, b+"/*", good && b != ".", good && b != ".")
	}
}

func TestAllShortTexts(t *testing.T) {
	many := [][]string{
		words(7, "/", "*", ".", "a"),
		words(5, "TARGETS", "/", "*", "a", "TAR", "GETS"),
		words(4, "/", "*", repeat("a", 31), repeat("b", 32), "a", "\xff"),
		words(3, "/", "*", "/*", deepPath(6), deepPath(5), "/"+deepPath(6), longPath(110), repeat("c", 9), "/a"),
	}
	count := [3]int{}
	for _, s := range slices.Concat(many...) {
		literal, star := isLiteral(s), isGlob(s)
		checkText(t, s, literal || star, star)
		switch {
		case literal:
			count[0]++
		case star:
			count[1]++
		default:
			count[2]++
		}
	}
	if slices.Min(count[:]) < 500 {
		t.Errorf("the texts have only %d literals, globs, others", count)
	}
}

func TestLimitsOfTexts(t *testing.T) {
	for n := 1; n <= 40; n++ {
		checkText(t, repeat("a", n), n <= 32, false)
		checkText(t, "x/"+repeat("a", n), n <= 32, false)
		checkText(t, repeat("a", n)+"/x", n <= 32, false)
		checkText(t, repeat("a", n)+"/*", n <= 32, n <= 32)
		for k := range n {
			s := repeat("a", k) + "*" + repeat("b", n-1-k)
			checkText(t, s, n <= 32, n <= 32)
			checkText(t, "x/"+s, n <= 32, n <= 32)
		}
	}
	for n := 1; n <= 20; n++ {
		checkText(t, deepPath(n), n <= 12, false)
		checkText(t, deepPath(n)+"/*", n <= 11, n <= 11)
		checkText(t, deepPath(n)+"/b.*", n <= 11, n <= 11)
	}
	for n := 92; n <= 122; n++ {
		checkText(t, longPath(n), n <= 120, false)
		checkText(t, longPath(n)+"/*", n+2 <= 120, n+2 <= 120)
		checkText(t, repeat("a", n-90)+repeat("/"+repeat("b", 28)+"c", 2)+"/*"+repeat("b", 28), n <= 120, n <= 120)
	}
}

// P10.2

func TestExample2(t *testing.T) {
	for _, c := range [][2]string{{"*.c", "a.c"}, {"*.c", ".c"}, {"a*a", "aa"}, {"*", ""}} {
		checkMatch(t, c[0], c[1], true)
	}
	for _, c := range [][2]string{{"a*a", "a"}, {"*.c", "a.h"}, {"a.c", "a.c"}, {"**", "*"}} {
		checkMatch(t, c[0], c[1], false)
	}
}

func TestMatchInTables(t *testing.T) {
	for _, c := range [][2]string{
		{"*", "a"}, {"*", "abc"}, {"*", "/"}, {"*", "a/b"}, {"*", "*"}, {"*", "**"}, {"*", "\x00"}, {"*", "\xff\xfe"}, {"*", "ä"}, {"*", "."}, {"*", ".."}, {"*", "TARGETS"}, {"*", " "}, {"*", "\n"}, {"*", repeat("x", 100000)},
		{"a*", "a"}, {"a*", "ab"}, {"a*", "a*"}, {"a*", "a/"}, {"a*", "aa"}, {"a*", "a" + repeat("x", 100000)}, {"a*", "a\n"}, {"a*", "a\xff"},
		{"*a", "a"}, {"*a", "ba"}, {"*a", "*a"}, {"*a", "/a"}, {"*a", "aa"}, {"*a", repeat("x", 100000) + "a"}, {"*a", "\na"}, {"*a", "\xffa"},
		{"a*b", "ab"}, {"a*b", "a*b"}, {"a*b", "axb"}, {"a*b", "abb"}, {"a*b", "aab"}, {"a*b", "abab"}, {"a*b", "a/b"}, {"a*b", "a\nb"}, {"a*b", "a\x00\xffb"},
		{"ab*ab", "abab"}, {"ab*ab", "ababab"}, {"aa*aa", "aaaa"}, {"aa*aa", "aaaaa"}, {"aba*aba", "abaaba"}, {"T*S", "TARGETS"}, {"*TARGETS", "TARGETS"}, {"TARGETS*", "TARGETS"}, {"...*", "..."}, {".*", "."}, {".*", ".."},
		{repeat("a", 31) + "*", repeat("a", 31)}, {repeat("a", 31) + "*", repeat("a", 200)}, {"*" + repeat("a", 31), repeat("a", 31)}, {repeat("a", 15) + "*" + repeat("b", 16), repeat("a", 15) + repeat("b", 16)},
	} {
		checkMatch(t, c[0], c[1], true)
	}
	for _, c := range [][2]string{
		{"a*", ""}, {"*a", ""}, {"a*", "b"}, {"*a", "b"}, {"a*", "ba"}, {"*a", "ab"}, {"a*", "A"}, {"*a", "A"}, {"a*", "*"}, {"a*", "*a"}, {"*a", "a*"}, {"a*", "/a"}, {"*a", "a/"}, {"a*", "\na"}, {"*a", "a\n"},
		{"a*b", ""}, {"a*b", "a"}, {"a*b", "b"}, {"a*b", "ba"}, {"a*b", "abc"}, {"a*b", "cab"}, {"a*b", "a*"}, {"a*b", "*b"}, {"a*b", "*"},
		{"ab*ab", "ab"}, {"ab*ab", "aba"}, {"ab*ba", "aba"}, {"aa*aa", "aaa"}, {"aa*aa", "aa"}, {"aba*aba", "ababa"}, {"aba*aba", "aba"}, {"ab*b", "ab"}, {"a*ab", "ab"}, {"a*ab", "a"},
		{"*.c", "c"}, {"*.c", "a.cc"}, {"*.c", "a.c "}, {"*.c", "a.C"}, {".*", ""}, {".*", "a."}, {"...*", ".."},
		{repeat("a", 31) + "*", repeat("a", 30)}, {"*" + repeat("a", 31), repeat("a", 30)}, {repeat("a", 15) + "*" + repeat("b", 16), repeat("a", 15) + repeat("b", 15)},
	} {
		checkMatch(t, c[0], c[1], false)
	}
}

func TestTextsThatAreNoPatterns(t *testing.T) {
	for _, p := range []string{
		"", "a", "a.c", "TARGETS", ".", "..", "**", "***", "*a*", "a**", "**a", "a*b*", "/", "/*", "*/", "x/*", "x/a*", "*/x", "a b*", " *", "* ", "*\n", "\x00*", "*\xff", "ä*", "*ä", "a?*", "*:", "\\*", "[*]", "?", "[a]",
		repeat("a", 32) + "*", "*" + repeat("a", 32), repeat("a", 16) + "*" + repeat("b", 16), repeat("a", 33), repeat("*", 33), "*" + repeat("a", 100000), repeat("*", 100000),
	} {
		for _, name := range []string{"", "a", "*", "/", p, strings.Replace(p, "*", "", 1), strings.Replace(p, "*", "a", 1), strings.ReplaceAll(p, "*", ""), strings.ReplaceAll(p, "*", "bc"), "a" + p, p + "a"} {
			checkMatch(t, p, name, false)
		}
	}
}

func TestEveryByteOfAPattern(t *testing.T) {
	for c := range 256 {
		b := string([]byte{byte(c)})
		good := component.MatchString(b)
		checkMatch(t, b+"*", b, good)
		checkMatch(t, "*"+b, b, good)
		checkMatch(t, b+"*"+b, b+b, good)
		checkMatch(t, b+"*"+b, b, false)
		checkMatch(t, "a"+b+"*", "a"+b+"xyz", good)
		checkMatch(t, "*"+b+"a", "xyz"+b+"a", good)
		checkMatch(t, "x"+b+"y", "x"+b+"y", b == "*")
		checkMatch(t, b, b, b == "*")
	}
}

func TestEveryByteOfAName(t *testing.T) {
	for c := range 256 {
		b := string([]byte{byte(c)})
		for _, name := range []string{b, b + b, "x" + b, b + "x", "x" + b + "x"} {
			checkMatch(t, "*", name, true)
			checkMatch(t, "x*", name, name[0] == 'x')
			checkMatch(t, "*x", name, name[len(name)-1] == 'x')
			checkMatch(t, "x*x", name, len(name) > 1 && name[0] == 'x' && name[len(name)-1] == 'x')
		}
		for _, other := range []string{"a", "Z", "5", ".", "_", "-"} {
			checkMatch(t, other+"*", b, b == other)
			checkMatch(t, "*"+other, b, b == other)
			checkMatch(t, "a"+other+"*", "a"+b, b == other)
			checkMatch(t, "*"+other+"a", b+"a", b == other)
		}
	}
}

func TestMatchOfAllShortTexts(t *testing.T) {
	matches := 0
	names := slices.Concat(words(5, "a", "b", "*"), words(3, "a", "/", "\xff", "."))
	for _, p := range slices.Concat(words(4, "a", "b", "*"), words(3, "/", "*", ".", "a")) {
		for _, name := range names {
			want := fits(p, name)
			checkMatch(t, p, name, want)
			if want {
				matches++
			}
		}
	}
	if matches < 1000 {
		t.Errorf("only %d names fit", matches)
	}
}

func TestLimitsOfPatterns(t *testing.T) {
	for n := 1; n <= 40; n++ {
		for k := range n {
			ahead, behind := repeat("a", k), repeat("b", n-1-k)
			for _, mid := range []string{"", "*", "x", "ab", repeat("ab", 40)} {
				checkMatch(t, ahead+"*"+behind, ahead+mid+behind, n <= 32)
			}
			if n > 1 {
				checkMatch(t, ahead+"*"+behind, (ahead + behind)[1:], false)
				checkMatch(t, ahead+"*"+behind, (ahead + behind)[:n-2], false)
			}
		}
	}
}

// P10.3

func TestExample3(t *testing.T) {
	l := at("TARGETS", "a.c", "x/TARGETS", "x/a.c", "x/b.c", "x/y/c.c")
	checkExpand(t, l, "", "*.c", only(l, 1), true)
	checkExpand(t, l, "x", "*", only(l, 3, 4), true)
	checkExpand(t, l, "", "x/*.c", only(l, 3, 4), true)
	checkExpand(t, l, "x", "y/*", only(l, 5), true)
	checkExpand(t, l, "x", "a.c", only(l, 3), true)
	checkExpand(t, l, "x", "c.c", nil, false)
	checkExpand(t, l, "x", "*.h", nil, true)
	checkExpand(t, l, "x", "T*", nil, true)
	checkExpand(t, l, "x", "TARGETS", nil, false)
}

func TestExample4(t *testing.T) {
	l := at("TARGETS", "a.c", "x/a.c", deepPath(12), deepPath(12)+"/a")
	checkExpand(t, l, deepPath(12), "*", nil, false)
	checkExpand(t, l, deepPath(11), "*", only(l, 3), true)
}

func TestExpandOfLiterals(t *testing.T) {
	l := at("x/y/c", "b", "x/c", "x/y", "x/y/c", "b", "TARGETS", "x/TARGETS", "c", "x", "TARGETS/a", "B")
	for _, c := range []struct {
		pkg, src string
		at       int
	}{
		{"", "b", 1}, {"", "x/c", 2}, {"x", "c", 2}, {"", "x/y", 3}, {"x", "y", 3}, {"", "x/y/c", 0}, {"x", "y/c", 0}, {"x/y", "c", 0}, {"", "c", 8}, {"", "x", 9}, {"", "TARGETS/a", 10}, {"TARGETS", "a", 10}, {"", "B", 11},
	} {
		checkExpand(t, l, c.pkg, c.src, only(l, c.at), true)
	}
	for _, c := range [][2]string{
		{"", "TARGETS"}, {"x", "TARGETS"}, {"", "x/TARGETS"}, {"x", "b"}, {"b", "x"}, {"y", "c"}, {"x", "x"}, {"x", "x/c"}, {"", "y"}, {"", "y/c"}, {"", "X"}, {"", "d"}, {"x/y/c", "d"}, {"", "TARGETS/TARGETS"}, {"TARGETS", "TARGETS"}, {"TARGETS", "b"},
	} {
		checkExpand(t, l, c[0], c[1], nil, false)
	}
	for _, src := range literals() {
		checkExpand(t, nil, "", src, nil, false)
		checkExpand(t, at(src), "", src, at(src), true)
	}
}

func TestExpandOfGlobs(t *testing.T) {
	l := at("x/y/b.c", "b.c", "TARGETS", "x/b.c", "x/TARGETS", "a.c", "x", "x/b.c", "x/y/z/d.c", "a.h", "xb.c", "x/a.h", "b.c/x", "x/TARGETS/q", "TARGETS/a.c", "TARGETS.c", "x/.c", "x/aTARGETS", "y/b.c")
	for _, c := range []struct {
		pkg, src string
		want     []api.File
	}{
		{"", "*", only(l, 1, 5, 6, 9, 10, 15)}, {"", "*.c", only(l, 1, 5, 10, 15)}, {"", "b*", only(l, 1)}, {"", "x*", only(l, 6, 10)}, {"", "*x", only(l, 6)}, {"", "T*", only(l, 15)}, {"", "TARGETS*", only(l, 15)}, {"", "*TARGETS", nil}, {"", "*S", nil}, {"", "T*S", nil},
		{"x", "*", only(l, 3, 7, 11, 16, 17)}, {"", "x/*", only(l, 3, 7, 11, 16, 17)}, {"x", "*.c", only(l, 3, 7, 16)}, {"", "x/*.c", only(l, 3, 7, 16)}, {"x", "b.c*", only(l, 3, 7)}, {"x", "b*.c", only(l, 3, 7)}, {"x", "b.*c", only(l, 3, 7)}, {"x", "*TARGETS", only(l, 17)}, {"x", "*S", only(l, 17)}, {"x", "a*", only(l, 11, 17)}, {"x", ".*", only(l, 16)}, {"x", ".*c", only(l, 16)},
		{"x", "y/*", only(l, 0)}, {"x/y", "*", only(l, 0)}, {"", "x/y/*", only(l, 0)}, {"x/y/z", "*", only(l, 8)}, {"x", "y/z/*.c", only(l, 8)}, {"x", "TARGETS/*", only(l, 13)}, {"", "TARGETS/*", only(l, 14)}, {"TARGETS", "*", only(l, 14)}, {"b.c", "*", only(l, 12)}, {"y", "b*c", only(l, 18)},
		{"z", "*", nil}, {"x", "z/*", nil}, {"", "z/*", nil}, {"x/b.c", "*", nil}, {"x", "q*", nil}, {"", "*.d", nil}, {"", "B*", nil}, {"X", "*", nil}, {"x/y", "b*b.c", nil}, {"x/y/z", "c*", nil},
	} {
		checkExpand(t, l, c.pkg, c.src, c.want, true)
	}
	for _, src := range globs() {
		checkExpand(t, nil, "", src, nil, true)
		checkExpand(t, []api.File{}, "", src, nil, true)
	}
}

func TestExpandOfWrongTexts(t *testing.T) {
	bad := append(neither(), "TARGETS", "x/TARGETS")
	l := at(append(bad, "a", "x/a", "x/TARGETS", "*", "x/*", "x/", "", "/a", "//a", "x//a", "x//*")...)
	for _, src := range bad {
		for _, pkg := range []string{"", "x", "x/y", "..", "x/"} {
			checkExpand(t, l, pkg, src, nil, false)
		}
	}
	for _, pkg := range []string{
		"/", "//", "/x", "x/", "x//y", "//x", ".", "..", "...", "x/..", "../x", "x y", "*", "x/*", "x*", "*/x", "ä", "\xff", "x\n", ":", "//x:y", repeat("a", 33), deepPath(13), longPath(121), repeat("a/", 100000), repeat("a", 100000),
	} {
		all := append(l, at(pkg, pkg+"/a", pkg+"/a.c", pkg+"a")...)
		for _, src := range []string{"a", "a.c", "*", "a*", "x/*", "x/a", ""} {
			checkExpand(t, all, pkg, src, nil, false)
		}
	}
	for _, src := range []string{"a", "*", "x/a", "x/*"} {
		checkExpand(t, l, "/", src, nil, false)
	}
}

// A manifest's name may be a package's, and a source's ahead of the last piece.
func TestExpandWhereTheNameIsADirectory(t *testing.T) {
	l := at("TARGETS/a", "TARGETS/TARGETS", "TARGETS/TARGETS/a", "a")
	checkExpand(t, l, "TARGETS", "*", only(l, 0), true)
	checkExpand(t, l, "TARGETS", "a", only(l, 0), true)
	checkExpand(t, l, "TARGETS", "TARGETS", nil, false)
	checkExpand(t, l, "TARGETS", "TARGETS/*", only(l, 2), true)
	checkExpand(t, l, "TARGETS/TARGETS", "a", only(l, 2), true)
}

func TestLimitsOfExpand(t *testing.T) {
	for n := 1; n <= 14; n++ {
		for k := 1; k <= 13; k++ {
			pkg, src := deepPath(n), deepPath(k)
			l := at(pkg+"/"+src, pkg+"/"+src+"b", pkg+"/"+src+"/a")
			fit := n <= 12 && k <= 12 && n+k <= 12
			literal, some := only(l, 0), only(l, 0, 1)
			if !fit {
				literal, some = nil, nil
			}
			checkExpand(t, l, pkg, src, literal, fit)
			checkExpand(t, l, pkg, src+"*", some, fit)
			checkExpand(t, l, "", pkg+"/"+src, literal, n+k <= 12)
		}
	}
	for n := 92; n <= 122; n++ {
		for k := 1; k <= 32; k++ {
			pkg, name := longPath(n), repeat("c", k-1)
			l := at(pkg+"/"+name, pkg+"/"+name+"c", pkg+"/"+name+"cc", pkg+"/"+name+"d", pkg)
			literal, some := only(l, 1), only(l, 0, 1, 2, 3)
			if n+1+k > 120 {
				literal, some = nil, nil
			}
			checkExpand(t, l, pkg, name+"c", literal, n+1+k <= 120)
			checkExpand(t, l, pkg, name+"*", some, n+1+k <= 120)
			checkExpand(t, l, "", pkg+"/"+name+"*", some, n+1+k <= 120)
		}
	}
	long := longPath(120)
	checkExpand(t, at(long), "", long, at(long), true)
	checkExpand(t, at("x/"+long), "x", long, nil, false)
	checkExpand(t, at(deepPath(12)), "", deepPath(12), at(deepPath(12)), true)
	checkExpand(t, at(deepPath(13)), "a", deepPath(12), nil, false)
}

// Files' names have no limit of their own: whatever l has is looked at.
func TestExpandOfFilesWithAnyPaths(t *testing.T) {
	long := repeat("n", 1000)
	l := at("x/"+long, "x/a b", "x/*", "x/\xff", "x/", "x//a", "/x/a", "x/a/", "x/..", "x/.", long, "x/a\n", "x/b/c", "ä", "/a", "", "x/\x00.c", "/", "x")
	checkExpand(t, l, "x", "*", only(l, 0, 1, 2, 3, 4, 8, 9, 11, 16), true)
	checkExpand(t, l, "", "x/*", only(l, 0, 1, 2, 3, 4, 8, 9, 11, 16), true)
	checkExpand(t, l, "x", "n*", only(l, 0), true)
	checkExpand(t, l, "x", "*b", only(l, 1), true)
	checkExpand(t, l, "x", "a*", only(l, 1, 11), true)
	checkExpand(t, l, "x", "*.c", only(l, 16), true)
	checkExpand(t, l, "x/a", "*", only(l, 7), true)
	checkExpand(t, l, "", "n*", only(l, 10), true)
	checkExpand(t, l, "", "*a", only(l, 14), true)
	checkExpand(t, l, "", "x", only(l, 18), true)
	checkExpand(t, l, "x", "a", nil, false)
	for _, pkg := range []string{"", "x", "x/a", "x/b"} {
		for _, src := range words(3, "x/", "*", "a", "b", ".") {
			checkOracle(t, l, pkg, src)
		}
	}
}

func TestExpandOfShortTexts(t *testing.T) {
	l := at(words(5, "/", "a", "TARGETS", "b")...)
	rand.New(rand.NewSource(104)).Shuffle(len(l), func(i, k int) { l[i], l[k] = l[k], l[i] })
	l = l[:700]
	for _, pkg := range []string{"", "a", "b", "a/b", "TARGETS", "a/", "/"} {
		for _, src := range words(4, "/", "*", "a", "b", "TARGETS") {
			checkOracle(t, l, pkg, src)
		}
	}
}

// anyText is a text of the parts, anyFiles are files of such paths.
func anyText(r *rand.Rand, most int, parts ...string) string {
	s := ""
	for range r.Intn(most + 1) {
		s += parts[r.Intn(len(parts))]
	}
	return s
}

func anyPath(r *rand.Rand) string {
	p := []string{"a", "b", "ab", "a.c", "b.c", "TARGETS"}[r.Intn(6)]
	for range r.Intn(4) {
		p = []string{"a", "b", "c"}[r.Intn(3)] + "/" + p
	}
	if r.Intn(12) == 0 {
		return anyText(r, 6, "/", "a", "*", ".", "\xff", "TARGETS")
	}
	return p
}

func anyFiles(r *rand.Rand) []api.File {
	var ps []string
	for range r.Intn(40) {
		ps = append(ps, anyPath(r))
	}
	return at(ps...)
}

// anySource is mostly a literal or a glob.
func anySource(r *rand.Rand) (pkg, src string) {
	pkg = []string{"", "", "a", "b", "c", "a/b", "b/a", "a/b/c", "a/", "d"}[r.Intn(10)]
	dir := []string{"", "", "", "a/", "b/", "a/b/", "/"}[r.Intn(7)]
	src = dir + []string{"*", "*", "a*", "*b", "*.c", "a*.c", "a", "b.c", "TARGETS", "T*", "**", ""}[r.Intn(12)]
	if r.Intn(12) == 0 {
		src = anyText(r, 5, "/", "a", "*", ".", "b")
	}
	return pkg, src
}

func TestExpandOfManyLists(t *testing.T) {
	r := rand.New(rand.NewSource(103))
	found, none := 0, 0
	for range 30000 {
		l := anyFiles(r)
		pkg, src := anySource(r)
		checkOracle(t, l, pkg, src)
		if some, ok := expanded(l, pkg, src); len(some) > 1 {
			found++
		} else if !ok {
			none++
		}
	}
	if found < 1000 || none < 1000 {
		t.Errorf("only %d lists and %d faults were told", found, none)
	}
}

// P10.5

func TestNoTextIsALiteralAndAGlob(t *testing.T) {
	for _, s := range slices.Concat(words(6, "/", "*", ".", "a"), literals(), globs(), neither()) {
		if glob.Star(s) && !glob.Valid(s) {
			t.Errorf("P10.5: %q is a glob, and is not valid", s)
		}
		if glob.Star(s) && glob.Valid(s) != strings.Contains(s, "*") {
			t.Errorf("P10.5: %q is a glob without a star", s)
		}
		if glob.Valid(s) && !glob.Star(s) {
			if f, ok := glob.Expand(at(s, s), "", s); !ok || !slices.Equal(f, at(s)) || strings.Contains(s, "*") {
				t.Errorf("P10.5: %q is no literal and no glob: %v, %v", s, f, ok)
			}
		}
	}
}

func TestAPatternWithoutItsStar(t *testing.T) {
	for _, p := range words(6, "a", "b", "*") {
		if strings.Count(p, "*") != 1 {
			continue
		}
		least := strings.Replace(p, "*", "", 1)
		if !glob.Match(p, least) {
			t.Errorf("P10.5: %q without its star doesn't fit it", p)
		}
		for _, name := range words(5, "a", "b") {
			if len(name) < len(least) && glob.Match(p, name) {
				t.Errorf("P10.5: %q fits %q, which is longer", name, p)
			}
		}
	}
}

// part keeps those of a list that stay says.
func part(l []api.File, stay func(f api.File) bool) []api.File {
	var some []api.File
	for _, f := range l {
		if stay(f) {
			some = append(some, f)
		}
	}
	return some
}

func TestWhatFollowsOfExpand(t *testing.T) {
	r := rand.New(rand.NewSource(105))
	for range 10000 {
		l := anyFiles(r)
		pkg, src := anySource(r)
		whole := joined(pkg, src)
		got, ok := glob.Expand(l, pkg, src)
		for _, f := range got {
			if !slices.Contains(l, f) {
				t.Fatalf("P10.5: Expand(%v, %q, %q) has %v", l, pkg, src, f)
			}
		}
		if ok && glob.Star(src) != glob.Star(whole) {
			t.Fatalf("P10.5: Star(%q) and Star(%q) are not one", src, whole)
		}
		if !ok || !glob.Star(src) {
			continue
		}
		kept := map[api.File]int{}
		for _, f := range l {
			kept[f] = r.Intn(2)
		}
		stay := func(f api.File) bool { return kept[f] == 1 }
		some, ok := glob.Expand(part(l, stay), pkg, src)
		if !ok || !slices.Equal(some, part(got, stay)) {
			t.Fatalf("P10.5: of a part of %v Expand(%q, %q) = %v, %v, want that part of %v", l, pkg, src, some, ok, got)
		}
		dir, _ := ends(whole)
		near, ok := glob.Expand(part(l, func(f api.File) bool { d, _ := ends(f.Path); return d == dir }), pkg, src)
		if !ok || !slices.Equal(near, got) {
			t.Fatalf("P10.5: of the files of %q alone Expand(%q, %q) = %v, %v, want %v", dir, pkg, src, near, ok, got)
		}
	}
}

func TestStarOfSourceAndOfWhole(t *testing.T) {
	for _, pkg := range []string{"", "a", "a/b", "TARGETS", deepPath(11), deepPath(12), longPath(116), longPath(118), longPath(120)} {
		for _, src := range slices.Concat(words(4, "/", "*", "a", "TARGETS"), literals(), globs()) {
			whole := joined(pkg, src)
			if glob.Valid(src) && glob.Valid(whole) && glob.Star(src) != glob.Star(whole) {
				t.Errorf("P10.5: Star(%q) and Star(%q) are not one", src, whole)
			}
			if glob.Valid(whole) && !glob.Valid(src) && pkg != "" {
				t.Errorf("P10.5: %q is valid, %q is not", whole, src)
			}
		}
	}
}

// P10.4

// withRoom gives a list in front of marks, and all of it.
func withRoom(items []api.File, mark api.File) (list, whole []api.File) {
	whole = append(slices.Clone(items), mark, mark, mark, mark)
	return whole[:len(items)], whole
}

// fill writes over a list and its spare room; filled tells whether that is still there.
func fill(l []api.File, mark api.File) {
	for i := range l[:cap(l)] {
		l[:cap(l)][i] = mark
	}
}

func filled(l []api.File, mark api.File) bool {
	return !slices.ContainsFunc(l[:cap(l)], func(f api.File) bool { return f != mark })
}

// markOf is a file that the source names, so that it shows where one is looked at that is not of the list.
func markOf(pkg, src string) api.File {
	return api.File{Path: strings.Replace(joined(pkg, src), "*", "mark", 1), Text: "mark", Blob: -7, Size: -7}
}

func TestWhatIsHandedInStays(t *testing.T) {
	r := rand.New(rand.NewSource(1041))
	for range 5000 {
		files := anyFiles(r)
		pkg, src := anySource(r)
		want, ok := expanded(files, pkg, src)
		l, whole := withRoom(files, markOf(pkg, src))
		was := slices.Clone(whole)
		checkExpand(t, l, pkg, src, want, ok)
		if !slices.Equal(whole, was) {
			t.Fatalf("P10.4: Expand(%v, %q, %q) changed what was handed in, or the room behind it", files, pkg, src)
		}
	}
}

func TestAnswersAreNewMemory(t *testing.T) {
	r := rand.New(rand.NewSource(1042))
	one, two := api.File{Path: "one", Blob: -1}, api.File{Path: "two", Blob: -2}
	lists := [][]api.File{at("a"), at("a", "b"), at("a", "b", "c", "d", "e"), at("b", "a", "a"), at("a/b", "a", "b")}
	for range 3000 {
		lists = append(lists, anyFiles(r))
	}
	for i, files := range lists {
		pkg, src := anySource(r)
		if i < 5 {
			pkg, src = "", []string{"*", "a"}[i%2]
		}
		l, whole := withRoom(files, markOf(pkg, src))
		was := slices.Clone(whole)
		want, ok := expanded(files, pkg, src)
		first, _ := glob.Expand(l, pkg, src)
		second, _ := glob.Expand(l, pkg, src)
		fill(first, one)
		if !slices.Equal(whole, was) {
			t.Fatalf("P10.4: Expand(%v, %q, %q) and its list share memory", files, pkg, src)
		}
		if !slices.Equal(second, want) {
			t.Fatalf("P10.4: two answers of Expand(%v, %q, %q) share memory", files, pkg, src)
		}
		fill(second, two)
		if !filled(first, one) || !slices.Equal(whole, was) {
			t.Fatalf("P10.4: two answers of Expand(%v, %q, %q) share memory", files, pkg, src)
		}
		checkExpand(t, l, pkg, src, want, ok)
		fill(whole, one)
		if !filled(first, one) || !filled(second, two) {
			t.Fatalf("P10.4: an answer of Expand(%v, %q, %q) was kept", files, pkg, src)
		}
	}
}

// What was asked before leaves nothing behind.
func TestAnswersHangOnTheirArgumentsAlone(t *testing.T) {
	l, other := at("a.c", "x/a.c", "x/b.c"), at("b.c", "x/c.c")
	for range 3 {
		checkExpand(t, l, "", "*.c", only(l, 0), true)
		checkExpand(t, other, "", "*.c", only(other, 0), true)
		checkExpand(t, l, "x", "*.c", only(l, 1, 2), true)
		checkExpand(t, other, "x", "*.c", only(other, 1), true)
		checkExpand(t, other, "x", "a.c", nil, false)
		checkExpand(t, l, "x", "a.c", only(l, 1), true)
		checkMatch(t, "a*", "ab", true)
		checkMatch(t, "b*", "ab", false)
	}
	l[0].Path = "c.h"
	checkExpand(t, l, "", "*.c", nil, true)
}

// A false answer names no file, whatever the list has.
func TestNoFileBesideFalse(t *testing.T) {
	l := at("TARGETS", "x/TARGETS", "x/", "", "/", "*", "x/*", "a//b", "..", deepPath(13), longPath(121))
	for _, c := range [][2]string{{"", "TARGETS"}, {"x", "TARGETS"}, {"", ""}, {"x", ""}, {"", "x/"}, {"", "/"}, {"", "**"}, {"", "a//b"}, {"", ".."}, {"a", deepPath(12)}, {"", longPath(121)}, {"/", "*"}, {"x/", "*"}, {"", "b"}} {
		if got, ok := glob.Expand(l, c[0], c[1]); len(got) != 0 || ok {
			t.Errorf("P10.3: Expand(%q, %q) = %v, %v", c[0], c[1], got, ok)
		}
	}
}
