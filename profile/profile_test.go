package profile_test

import (
	"fmt"
	"math/rand"
	"slices"
	"strings"
	"testing"

	"copse/api"
	"copse/closure"
	"copse/cone"
	"copse/merge"
	"copse/profile"
)

const maxText = 65536

// The oracles: chapter 17's words, by chapter 2's pieces.

func pieces(p string) []string {
	if p == "" {
		return nil
	}
	return strings.Split(p, "/")
}

func byPieces(a, b string) int { return slices.Compare(pieces(a), pieces(b)) }

func isAbove(a, b string) bool {
	x, y := pieces(a), pieces(b)
	return len(x) < len(y) && slices.Equal(x, y[:len(x)])
}

func dirOf(p string) string {
	if i := strings.LastIndexByte(p, '/'); i >= 0 {
		return p[:i]
	}
	return ""
}

func isComponent(s string) bool {
	if len(s) < 1 || len(s) > 32 || s == "." || s == ".." || s == "..." {
		return false
	}
	return strings.Trim(s, "abcdefghijklmnopqrstuvwxyzABCDEFGHIJKLMNOPQRSTUVWXYZ0123456789._-") == ""
}

func isPath(p string) bool {
	x := pieces(p)
	return len(p) <= 120 && len(x) <= 12 && !slices.ContainsFunc(x, func(s string) bool { return !isComponent(s) })
}

func areCones(k []string) bool {
	times := map[string]int{}
	for i, c := range k {
		if !isPath(c) || i > 0 && byPieces(k[i-1], c) >= 0 {
			return false
		}
		times[c]++
	}
	return !slices.ContainsFunc(k, func(c string) bool {
		for c != "" {
			if c = dirOf(c); times[c] > 0 {
				return true
			}
		}
		return false
	})
}

// textOf is the text of cones, be it ever so long: all directories are gathered first, then put into their order.
func textOf(k []string) string {
	if slices.Equal(k, []string{""}) {
		return "/*\n"
	}
	isCone := map[string]bool{}
	for _, c := range k {
		for d := dirOf(c); d != ""; d = dirOf(d) {
			isCone[d] = false
		}
		isCone[c] = true
	}
	var dirs []string
	for d := range isCone {
		dirs = append(dirs, d)
	}
	slices.SortFunc(dirs, byPieces)
	lines := []string{"/*\n", "!/*/\n"}
	for _, d := range dirs {
		lines = append(lines, "/"+d+"/\n")
		if !isCone[d] {
			lines = append(lines, "!/"+d+"/*/\n")
		}
	}
	return strings.Join(lines, "")
}

// conesOf reads a text line by line, with a rule for each of them; nothing is written again.
func conesOf(s string) (k []string, ok bool) {
	if s == "/*\n" {
		return []string{""}, true
	}
	rest, ok := strings.CutPrefix(s, "/*\n!/*/\n")
	if !ok || len(s) > maxText || rest != "" && !strings.HasSuffix(rest, "\n") {
		return nil, false
	}
	lines := strings.Split(rest, "\n")
	lines = lines[:len(lines)-1]
	above := []string{""} // the directories that stand open above what may come next
	last := ""
	for i := 0; i < len(lines); i++ {
		d, begins := strings.CutPrefix(lines[i], "/")
		d, ends := strings.CutSuffix(d, "/")
		if !begins || !ends || d == "" || !isPath(d) || byPieces(last, d) >= 0 || !slices.Contains(above, dirOf(d)) {
			return nil, false
		}
		last = d
		if i+1 == len(lines) || lines[i+1] != "!/"+d+"/*/" {
			k = append(k, d)
			continue
		}
		i++
		above = append(above, d)
		if i+1 == len(lines) || !strings.HasPrefix(lines[i+1], "/"+d+"/") {
			return nil, false // nothing is below it
		}
	}
	return k, true
}

// What is asked, and how it is held against what is wanted.

// told writes what a test is about, cut short where it is very long.
func told(v any) string {
	s := fmt.Sprintf("%q", v)
	if len(s) > 2000 {
		s = s[:2000] + " ..."
	}
	return s
}

func writes(t *testing.T, k []string, want string) {
	t.Helper()
	if s, e := profile.Write(k); s != want || e != api.OK {
		t.Fatalf("P17.1: Write(%s): %s, %d, want %s", told(k), told(s), e, told(want))
	}
}

func writesNot(t *testing.T, k []string, want api.Errno) {
	t.Helper()
	if s, e := profile.Write(k); s != "" || e != want {
		t.Fatalf("P17.1: Write(%s): %s, %d, want %d", told(k), told(s), e, want)
	}
}

func reads(t *testing.T, s string, want []string) {
	t.Helper()
	if k, e := profile.Read(s); !slices.Equal(k, want) || e != api.OK {
		t.Fatalf("P17.2: Read(%s): %s, %d, want %s", told(s), told(k), e, told(want))
	}
}

func readsNot(t *testing.T, s string) {
	t.Helper()
	if k, e := profile.Read(s); len(k) != 0 || e != api.ErrText {
		t.Fatalf("P17.2: Read(%s): %s, %d, want %d", told(s), told(k), e, api.ErrText)
	}
}

// asWords holds both calls against the oracles.
func asWords(t *testing.T, k []string) {
	t.Helper()
	if !areCones(k) {
		writesNot(t, k, api.ErrCone)
		return
	}
	text := textOf(k)
	if len(text) > maxText {
		writesNot(t, k, api.ErrText)
		readsNot(t, text)
		return
	}
	writes(t, k, text)
	reads(t, text, k)
}

// readsAsWords tells whether the text is one.
func readsAsWords(t *testing.T, s string) bool {
	t.Helper()
	k, ok := conesOf(s)
	if ok {
		reads(t, s, k)
	} else {
		readsNot(t, s)
	}
	return ok
}

func words(s string) []string { return strings.Fields(s) }

// lists gives all lists of up to some items, in every order and with items twice, to a call.
func lists(items []string, most int, call func(l []string)) {
	var grow func(l []string)
	grow = func(l []string) {
		call(l)
		if len(l) == most {
			return
		}
		for _, s := range items {
			grow(append(slices.Clip(l), s))
		}
	}
	grow(nil)
}

// allCones gives all cones of some directories, in the order of paths, to a call; the root alone too.
func allCones(dirs []string, call func(k []string)) {
	dirs = slices.Clone(dirs)
	slices.SortFunc(dirs, byPieces)
	call([]string{""})
	for set := range 1 << len(dirs) {
		var k []string
		for i, d := range dirs {
			if set>>i&1 == 1 {
				k = append(k, d)
			}
		}
		if areCones(k) {
			call(k)
		}
	}
}

var someDirs = words("a a/b a/b/c a/b-c a/c a-b a-b/c a.b ab b b/a")

var (
	longest = strings.Repeat("a", 30) + strings.Repeat("/"+strings.Repeat("b", 29), 3) // as long as a path may be
	deepest = strings.Repeat("a/", 11) + "a"
	widest  = strings.Repeat("a", 32)
)

// The examples of the chapter.

func TestExample1(t *testing.T) {
	for _, c := range []struct {
		k    []string
		text string
	}{
		{nil, "/*\n!/*/\n"},
		{[]string{}, "/*\n!/*/\n"},
		{[]string{""}, "/*\n"},
		{[]string{"a"}, "/*\n!/*/\n/a/\n"},
		{[]string{"a/b", "c"}, "/*\n!/*/\n/a/\n!/a/*/\n/a/b/\n/c/\n"},
	} {
		writes(t, c.k, c.text)
		reads(t, c.text, c.k)
	}
}

func TestExample2(t *testing.T) {
	for _, k := range [][]string{{"b", "a"}, {"a", "a/b"}, {"a", "a"}, {"/"}} {
		writesNot(t, k, api.ErrCone)
	}
}

func TestExample3(t *testing.T) {
	for _, s := range []string{
		"", "/*", "/*\n/a/\n", "/*\n!/*/\n/b/\n/a/\n", "/*\n!/*/\n/a/b/\n", "/*\n!/*/\n/a/\n!/a/*/\n", "/*\n!/*/\n/a/\n\n",
	} {
		readsNot(t, s)
	}
}

// P17.1

// joined is the text of the lines that all cones but the root's have, and of some more.
func joined(lines ...string) string {
	return "/*\n!/*/\n" + strings.Join(append(lines, ""), "\n")
}

// chain is the text of one cone, by itself.
func chain(c string) string {
	var lines []string
	for i := range c {
		if c[i] == '/' {
			lines = append(lines, "/"+c[:i]+"/", "!/"+c[:i]+"/*/")
		}
	}
	return joined(append(lines, "/"+c+"/")...)
}

// texts are cones with their texts, written out.
var texts = []struct {
	k    []string
	text string
}{
	{nil, joined()},
	{[]string{""}, "/*\n"},
	{words("a"), joined("/a/")},
	{words("a/b"), joined("/a/", "!/a/*/", "/a/b/")},
	{words("a/b/c"), joined("/a/", "!/a/*/", "/a/b/", "!/a/b/*/", "/a/b/c/")},
	{words("a b c"), joined("/a/", "/b/", "/c/")},
	{words("a/b a/c"), joined("/a/", "!/a/*/", "/a/b/", "/a/c/")},                                                   // what is above both stands once
	{words("a/b/c a/b/d a/e"), joined("/a/", "!/a/*/", "/a/b/", "!/a/b/*/", "/a/b/c/", "/a/b/d/", "/a/e/")},         // twice so
	{words("a/b/c a/c/b"), joined("/a/", "!/a/*/", "/a/b/", "!/a/b/*/", "/a/b/c/", "/a/c/", "!/a/c/*/", "/a/c/b/")}, // up and down again
	{words("a/b/c/d b/b/c/d"), joined("/a/", "!/a/*/", "/a/b/", "!/a/b/*/", "/a/b/c/", "!/a/b/c/*/", "/a/b/c/d/", "/b/", "!/b/*/", "/b/b/", "!/b/b/*/", "/b/b/c/", "!/b/b/c/*/", "/b/b/c/d/")}, // deep, and nothing in common
	{words("a/b a/c/d/e a/f"), joined("/a/", "!/a/*/", "/a/b/", "/a/c/", "!/a/c/*/", "/a/c/d/", "!/a/c/d/*/", "/a/c/d/e/", "/a/f/")},                                                           // one deep below the others' directory
	{words("a/a a/a-b a/b"), joined("/a/", "!/a/*/", "/a/a/", "/a/a-b/", "/a/b/")},                                                                                                             // beginnings of one another
	{words("a a-b a.b ab"), joined("/a/", "/a-b/", "/a.b/", "/ab/")},
	{words("a/b a-b"), joined("/a/", "!/a/*/", "/a/b/", "/a-b/")}, // by their bytes a-b would be ahead of a/b
	{words("a/b/c a/b-c/d a-b/c"), joined("/a/", "!/a/*/", "/a/b/", "!/a/b/*/", "/a/b/c/", "/a/b-c/", "!/a/b-c/*/", "/a/b-c/d/", "/a-b/", "!/a-b/*/", "/a-b/c/")},
	{words("a/z a-b/a a.b/a ab/a"), joined("/a/", "!/a/*/", "/a/z/", "/a-b/", "!/a-b/*/", "/a-b/a/", "/a.b/", "!/a.b/*/", "/a.b/a/", "/ab/", "!/ab/*/", "/ab/a/")},
	{words("- .a 0 A TARGETS _ a"), joined("/-/", "/.a/", "/0/", "/A/", "/TARGETS/", "/_/", "/a/")},
	{words("-.- ...."), joined("/-.-/", "/..../")},
	{words("a/a/a"), joined("/a/", "!/a/*/", "/a/a/", "!/a/a/*/", "/a/a/a/")},
	{[]string{widest}, joined("/" + widest + "/")},
	{[]string{longest}, chain(longest)},
	{[]string{deepest}, chain(deepest)},
	{[]string{deepest, "b"}, chain(deepest) + "/b/\n"},
}

func TestWrite(t *testing.T) {
	for _, c := range texts {
		writes(t, c.k, c.text)
	}
}

// TestLinesOfDirectoriesStandOnce: the two lines of a directory above many cones.
func TestLinesOfDirectoriesStandOnce(t *testing.T) {
	var k []string
	for i := range 300 {
		k = append(k, fmt.Sprintf("x/y/%d/%03d", i/100, i))
	}
	s, _ := profile.Write(k)
	for _, line := range words("/x/ !/x/*/ /x/y/ !/x/y/*/ /x/y/0/ !/x/y/0/*/ /x/y/2/ !/x/y/2/*/ /x/y/1/100/") {
		if n := strings.Count("\n"+s, "\n"+line+"\n"); n != 1 {
			t.Errorf("P17.1: the line %q stands %d times", line, n)
		}
	}
	asWords(t, k)
}

// noCones are lists that cone.Valid refuses, of all kinds.
var noCones = [][]string{
	{"/"}, {"/a"}, {"a/"}, {"a//b"}, {"//"}, {"."}, {".."}, {"..."}, {"a/.."}, {"a/./b"}, {"a b"}, {"*"}, {"a/*"}, {"!a"}, {"!"}, {"a\n"}, {"\n"}, {"a\r"}, {"\x00"}, {"é"}, {"\xff"}, {"a", "b/"}, {"a", "b", "c c"}, // no paths
	{widest + "a"}, {longest + "b"}, {deepest + "/a"}, {"b", strings.Repeat("c", 1<<20)}, {strings.Repeat("a/", 1<<18)},
	{"b", "a"}, {"a-b", "a/b"}, {"ab", "a"}, {"a", "B"}, {"b", "a/c"}, {"a", "c", "b"}, {"c", "a", "b"}, {"a.b", "a-b"}, // out of their order
	{"a", "a"}, {"a", "b", "b"}, {"a", "a", "b"}, {"a", "b", "a"}, {"a/b", "a/b"}, // twice the same
	{"a", "a/b"}, {"a/b", "a"}, {"a", "a/b/c"}, {"a", "b", "b/c"}, {"a/b", "a/b/c", "a/c"}, {"a", "a-b", "a-b/c"}, // one above another
	{"", "a"}, {"a", ""}, {"", ""}, {"", "a", "b"}, {"a", "", "b"}, // the root beside others
}

func TestWriteOfNoCones(t *testing.T) {
	for _, k := range noCones {
		if areCones(k) {
			t.Fatalf("the test's own list is one of cones: %q", k)
		}
		writesNot(t, k, api.ErrCone)
	}
}

func TestWriteOfAllShortLists(t *testing.T) {
	lists([]string{"", "a", "a/b", "a/b/c", "a/c", "a-b", "a-b/c", "ab", "b", "/", "a/", "/a", "a//b", "..", "*", "!/a", "a\n", "\xff"}, 3, func(k []string) { asWords(t, k) })
	lists([]string{"", "a", "a/b", "a/b/c", "a-b", "a-b/c", "b"}, 5, func(k []string) { asWords(t, k) })
}

func TestWriteOfEveryByte(t *testing.T) {
	for b := range 256 {
		s := string([]byte{byte(b)})
		asWords(t, []string{s})
		asWords(t, []string{"0" + s, "z"})
		asWords(t, []string{"0", "a/" + s + "b"})
	}
}

func TestAllConesOfSomeDirectories(t *testing.T) {
	n := 0
	allCones(someDirs, func(k []string) {
		asWords(t, k)
		n++
	})
	if n < 100 {
		t.Errorf("the test has only %d lists", n)
	}
}

// flat are so many cones right in the root, whose lines have 8 bytes each.
func flat(n int) []string {
	var k []string
	for i := range n {
		k = append(k, fmt.Sprintf("%05d", i))
	}
	return k
}

func TestTextsOfJustMaxText(t *testing.T) {
	full := flat((maxText - 8) / 8)
	if n := len(textOf(full)); n != maxText {
		t.Fatalf("the test's own text has %d bytes", n)
	}
	asWords(t, full)
	writes(t, full, textOf(full))
	reads(t, textOf(full), full)

	over := slices.Clone(full)
	over[len(over)-1] += "0"
	if n := len(textOf(over)); n != maxText+1 {
		t.Fatalf("the test's own text has %d bytes", n)
	}
	writesNot(t, over, api.ErrText)
	readsNot(t, textOf(over))
}

// TestTextsNearMaxText: the last lines of all kinds go up to the limit and past it, byte by byte.
func TestTextsNearMaxText(t *testing.T) {
	for _, last := range []string{"z", "z/y", "z/y/x", "z/y/xx/w/v", deepest[:len(deepest)-1] + "z"} {
		n := (maxText - len(chain(last))) / 8
		for more := range 27 {
			k := append(flat(n-1), last)
			k[0] += strings.Repeat("0", more)
			asWords(t, k)
		}
	}
}

// TestLongTexts: most of the bytes are those of directories above the cones.
func TestLongTexts(t *testing.T) {
	for _, n := range []int{1, 10, 50, 68, 69, 70, 71, 72, 73, 74, 100, 200, 600} {
		var k []string
		for i := range n {
			k = append(k, fmt.Sprintf("%03d", i)+strings.Repeat("/a", 10)+"/"+widest)
		}
		asWords(t, k)
	}
	for _, n := range []int{8192, 9000, 20000, 300000} {
		writesNot(t, slices.Concat(flat(8191), []string{"z/y"}, numbered(n)), api.ErrText)
	}
	many := numbered(300000)
	writesNot(t, many, api.ErrText)
	readsNot(t, textOf(many))
}

// numbered are so many cones that stand behind all that begins with a letter but z.
func numbered(n int) []string {
	var k []string
	for i := range n {
		k = append(k, fmt.Sprintf("zz%03d/%03d", i/1000, i%1000))
	}
	return k
}

// TestNoConesIsAheadOfTooLong: both are so, wherever it is that the list is wrong.
func TestNoConesIsAheadOfTooLong(t *testing.T) {
	k := numbered(20000)
	for _, at := range []int{0, 1, 9999, 19998, 19999} {
		for _, s := range []string{"", "/", k[at] + "/", "zz000", "zz019", k[(at+1)%len(k)], k[(at+len(k)-1)%len(k)], "zz010/zz", "*"} {
			wrong := slices.Clone(k)
			wrong[at] = s
			writesNot(t, wrong, api.ErrCone)
		}
	}
	writesNot(t, append(slices.Clone(k), "a"), api.ErrCone)
	writesNot(t, append(slices.Clone(k), k[len(k)-1]+"/a"), api.ErrCone)
	writesNot(t, append([]string{""}, k...), api.ErrCone)
	writesNot(t, k, api.ErrText)
}

// P17.2

func TestRead(t *testing.T) {
	for _, c := range texts {
		reads(t, c.text, c.k)
		if k, ok := conesOf(c.text); !ok || !slices.Equal(k, c.k) {
			t.Fatalf("the test's own reader reads %q as %q, %v", c.text, k, ok)
		}
	}
}

func TestReadOfNoText(t *testing.T) {
	for _, s := range []string{
		"", "\n", "\n\n", " ", "/", "*", "!", "a", "/\n", "*\n", "!\n", "//\n", "a\n", "\x00", "\x00\n", "\xff\n",
		"/*", "/*\n/*\n", "/*\n\n", "\n/*\n", "/* \n", " /*\n", "/*/\n", "/**\n", "*/\n", "/*\r\n", "/*\n\x00", "/*\x00\n", "/*\n/*/\n", "/*/*\n", // all, nearly
		"/*\n/a/\n", "/*\n/a/\n/b/\n", "/*\n/a/\n!/a/*/\n/a/b/\n", "/*\n!/a/*/\n/a/\n", "/*\n!/a/*/\n", // without the second line
		"!/*/\n", "!/*/\n/*\n", "!/*/\n/a/\n", "/a/\n", "/a/\n!/a/*/\n/a/b/\n", "/a/\n/*\n!/*/\n", // without the first, or not ahead
		"/*\n!/*/", "/*\n!/*\n", "/*\n!/\n", "/*\n!*/\n", "/*\n!/**/\n", "/*\n! /*/\n", "/*\n!!/*/\n", "/*\n!//*/\n", "/*!/*/\n", "/*\r\n!/*/\r\n",
		joined() + "/*\n", joined() + "!/*/\n", joined() + joined(), joined() + "\n", "\n" + joined(), joined("/a/", "/*"), joined("/a/", "!/*/"), joined("/*", "!/*/", "/a/"), // the root's lines once more
		joined("//"), joined("/"), joined("///"), joined("", "/a/"), joined("/a/", ""), joined("/a/", "", "/b/"), // empty lines and paths
		joined("/b/", "/a/"), joined("/a-b/", "/a/", "!/a/*/", "/a/b/"), joined("/ab/", "/a/"), joined("/a/", "!/a/*/", "/a/c/", "/a/b/"), joined("/a.b/", "/a-b/"), joined("/b/", "/a/", "!/a/*/", "/a/b/"), // another order
		joined("/a/", "!/a/*/", "/b/", "/a/b/"), joined("/a/", "!/a/*/", "/a/b/", "/b/", "/a/c/"), joined("/a/b/", "/a/", "!/a/*/"), joined("!/a/*/", "/a/", "/a/b/"), joined("/a/", "/a/b/", "!/a/*/"),
		joined("/a/", "/a/"), joined("/a/", "!/a/*/", "/a/b/", "/a/b/"), joined("/a/", "!/a/*/", "!/a/*/", "/a/b/"), joined("/a/", "/a/", "!/a/*/", "/a/b/"), joined("/a/", "!/a/*/", "/a/", "!/a/*/", "/a/b/"), joined("/a/", "!/a/*/", "/a/b/", "/a/", "!/a/*/", "/a/c/"), // twice
		joined("/a/", "!/a/*/"), joined("/a/", "!/a/*/", "/b/"), joined("/a/", "!/a/*/", "/a-b/"), joined("/a/", "!/a/*/", "/a/b/", "!/a/b/*/"), joined("/a/", "!/a/*/", "/a/b/", "!/a/b/*/", "/a/c/"), joined("!/a/*/"), joined("!/a/*/", "/a/b/"), joined("/a/", "/b/", "!/b/*/"), // nothing below a directory that is no cone
		joined("/a/", "/a/b/"), joined("/a/b/"), joined("/a/", "!/a/*/", "/a/b/c/"), joined("/a/", "!/a/*/", "/a/b/", "/a/b/c/"), joined("/a/", "!/a/*/", "/a/b/", "!/a/b/*/", "/a/b/c/d/"), joined("/b/", "!/a/*/", "/a/b/"), joined("/a/b/", "!/a/b/*/", "/a/b/c/"), joined("/a/", "!/b/*/", "/a/b/"), // lines of what is above are missing
		joined("/./"), joined("/../"), joined("/.../"), joined("/a b/"), joined("//a/"), joined("/a//"), joined("/a/", "!/a/*/", "/a//b/"), joined("/" + widest + "a/"), joined("/!a/"), joined("/a*/"), joined("/a/", "!/a/*/", "/a/*/"), joined("/é/"), joined("/\xff/"), joined("/a/", "!/a/*/", "/a/../"), // no paths
		joined("a"), joined("/a"), joined("a/"), joined("!/a/"), joined("!a/*/"), joined(" /a/"), joined("/a/ "), joined("/a/\t"), joined("#/a/"), joined("\\/a/"), joined("/a/*"), joined("/a/*/"), joined("/a/**"), joined("+/a/"), joined("!!/a/*/"), joined("/a/", "!/a/*", "/a/b/"), joined("/a/", "/a/*/", "/a/b/"), joined("/a/", "!/a/**/", "/a/b/"), joined("/a/", "!/a/", "/a/b/"), joined("/a/", "!a/*/", "/a/b/"), joined("/a/", "! /a/*/", "/a/b/"), joined("/a/", "!/*/", "/a/b/"), joined("/a/", "!", "/a/b/"), // other beginnings and ends
		joined("/a/\r"), joined("/a\r/"), joined("\r/a/"), joined("/a/", "\r"), joined("/a/\x00"), joined("/a\x00/"), joined("\x00/a/"), joined("/a/") + "\x00", joined("/a/") + "\r", joined("/a/", "!/a/*/\r", "/a/b/"), joined("/a/\v/b/"), joined("/a/\f/b/"), joined("/a/\u2028/b/"), joined("/a/\u0085/b/"), "\ufeff" + joined("/a/"), // bytes that end no line
		"/*\r!/*/\r/a/\r", "/*\n!/*/\n/a/\r/b/\n", "/*\n!/*/\r/a/\n",
		chain(deepest + "/a"), chain(longest + "b"), chain(deepest) + "!/" + deepest + "/*/\n", // too deep, too long, and a directory below which no path is
	} {
		if _, ok := conesOf(s); ok {
			t.Fatalf("the test's own reader takes %q", s)
		}
		readsNot(t, s)
	}
}

// TestReadWithoutTheLastByte: and cut off anywhere, where that leaves no text of other cones.
func TestReadWithoutTheLastByte(t *testing.T) {
	for _, c := range texts {
		readsNot(t, strings.TrimSuffix(c.text, "\n"))
		readsNot(t, c.text+"\n")
		readsNot(t, c.text+"\x00")
		readsNot(t, strings.ReplaceAll(c.text, "\n", "\r\n"))
		for at := range c.text {
			readsAsWords(t, c.text[:at])
			readsAsWords(t, c.text[at:])
		}
	}
}

// linesOf are a text's lines, each with its end.
func linesOf(s string) []string { return slices.Collect(strings.Lines(s)) }

// near gives texts that are a few lines away from one to a call.
func near(s string, call func(s string)) {
	lines := strings.Split(strings.TrimSuffix(s, "\n"), "\n")
	whole := func(lines []string) { call(strings.Join(append(slices.Clip(lines), ""), "\n")) }
	others := append(words("/* !/*/ // / /a/ !/a/*/ /a/b/ !/a/b/*/ /a/b/c/ /a-b/ !/a-b/*/ /b/ !/b/*/ /c/ /0/ /a/0/ /a/z/ !/c/*/"), "", "\r")
	for i, line := range lines {
		whole(slices.Delete(slices.Clone(lines), i, i+1))
		whole(slices.Insert(slices.Clone(lines), i, line))
		for j := range i {
			swapped := slices.Clone(lines)
			swapped[i], swapped[j] = swapped[j], swapped[i]
			whole(swapped)
			whole(slices.Insert(slices.Clone(lines), i, lines[j]))
			whole(slices.Insert(slices.Delete(slices.Clone(lines), i, i+1), j, line))
			whole(slices.Delete(slices.Delete(slices.Clone(lines), i, i+1), j, j+1))
		}
		for _, other := range others {
			whole(slices.Insert(slices.Clone(lines), i, other))
			replaced := slices.Clone(lines)
			replaced[i] = other
			whole(replaced)
		}
	}
	for _, other := range others {
		whole(append(slices.Clone(lines), other))
	}
}

func TestReadOfNearTexts(t *testing.T) {
	isOne, isNone := 0, 0
	allCones(words("a a/b a/b/c a/c a-b a-b/c b"), func(k []string) {
		near(textOf(k), func(s string) {
			if readsAsWords(t, s) {
				isOne++
			} else {
				isNone++
			}
		})
	})
	if isOne < 300 || isNone < 5000 {
		t.Errorf("the test has only %d texts, and %d that are none", isOne, isNone)
	}
}

// TestReadOfChangedBytes: each byte of some texts is taken out, and in its place and ahead of it comes every other one.
func TestReadOfChangedBytes(t *testing.T) {
	for _, text := range []string{
		"/*\n", joined(), joined("/a/"), joined("/a/", "!/a/*/", "/a/b/", "/a-b/"), joined("/a/", "/b/"), joined("/aa/", "!/aa/*/", "/aa/b/", "!/aa/b/*/", "/aa/b/c/", "/aa/d/"),
	} {
		for at := range len(text) + 1 {
			for b := range 256 {
				one := string([]byte{byte(b)})
				readsAsWords(t, text[:at]+one+text[at:])
				if at < len(text) {
					readsAsWords(t, text[:at]+one+text[at+1:])
				}
			}
			if at < len(text) {
				readsAsWords(t, text[:at]+text[at+1:])
			}
		}
	}
}

// TestReadOfAllOrders: of all orders of some texts' lines one alone is a text.
func TestReadOfAllOrders(t *testing.T) {
	for _, text := range []string{
		joined(), joined("/a/", "!/a/*/", "/a/b/", "/a/c/"), joined("/a/", "/b/", "/c/"), joined("/a/", "!/a/*/", "/a/b/", "/a-b/"), joined("/a/", "!/a/*/", "/a/b/", "!/a/b/*/", "/a/b/c/"),
	} {
		found := 0
		var order func(s string, left []string)
		order = func(s string, left []string) {
			if len(left) == 0 && s == text {
				reads(t, s, wantOf(t, text))
				found++
			} else if len(left) == 0 {
				readsNot(t, s)
			}
			for i, line := range left {
				order(s+line, slices.Delete(slices.Clone(left), i, i+1))
			}
		}
		order("", linesOf(text))
		if found != 1 {
			t.Errorf("the test has met %q %d times", text, found)
		}
	}
}

func wantOf(t *testing.T, text string) []string {
	t.Helper()
	k, ok := conesOf(text)
	if !ok {
		t.Fatalf("the test's own text is none: %q", text)
	}
	return k
}

// TestReadOfAllShortTexts: of few lines and of few bytes.
func TestReadOfAllShortTexts(t *testing.T) {
	known := map[string][]string{}
	allCones(words("a a/b a-b"), func(k []string) { known[textOf(k)] = k })
	found := 0
	check := func(l []string) {
		s := strings.Join(l, "")
		k, ok := known[s]
		if !ok {
			readsNot(t, s)
			return
		}
		reads(t, s, k)
		found++
	}
	lists([]string{"/*\n", "!/*/\n", "/a/\n", "!/a/*/\n", "/a/b/\n", "/a-b/\n", "\n"}, 6, check)
	if found != len(known) {
		t.Errorf("the test has %d texts of %d", found, len(known))
	}
	found = 0
	lists([]string{"/", "*", "!", "\n", "a"}, 8, check)
	if found != 2 { // all, and none: the next one has 12 bytes
		t.Errorf("the test has %d texts of 2", found)
	}
}

func TestReadOfTooLongTexts(t *testing.T) {
	for _, s := range []string{
		textOf(flat(8191)) + "/z/\n", textOf(flat(8191)) + "\n", textOf(flat(8192)), textOf(flat(20000)), textOf(numbered(100000)),
		strings.Repeat("\n", maxText), strings.Repeat("\n", maxText+1), strings.Repeat("!", maxText), strings.Repeat("!\n", maxText), strings.Repeat("/a/\n", maxText/4), strings.Repeat("/", 1<<24), strings.Repeat("/*\n", 1<<22),
		joined() + strings.Repeat("a", maxText-8), joined() + strings.Repeat("/a", maxText/2-8) + "/\n", joined("/" + strings.Repeat("a/", 1<<20)), strings.Repeat("\x00", 1<<24),
	} {
		readsNot(t, s)
	}
}

// P17.3

// anyPath is a path of few components, so that many are above, below and beside one another.
func anyPath(r *rand.Rand, depth int) string {
	var p []string
	for range 1 + r.Intn(depth) {
		p = append(p, []string{"a", "a-b", "a.b", "ab", "b", "B"}[r.Intn(6)])
	}
	return strings.Join(p, "/")
}

func anyCones(r *rand.Rand, n, depth int) []string {
	if r.Intn(200) == 0 {
		return []string{""}
	}
	var k []string
	for range r.Intn(n + 1) {
		c := anyPath(r, depth)
		if !slices.ContainsFunc(k, func(d string) bool { return c == d || isAbove(c, d) || isAbove(d, c) }) {
			k = append(k, c)
		}
	}
	slices.SortFunc(k, byPieces)
	return k
}

// bothWays: Read(Write(k)) is k.
func bothWays(t *testing.T, k []string) string {
	t.Helper()
	s, e := profile.Write(k)
	if e != api.OK {
		t.Fatalf("P17.3: Write(%s): %d", told(k), e)
	}
	again, e := profile.Read(s)
	if e != api.OK || !slices.Equal(again, k) {
		t.Fatalf("P17.3: Read(Write(%s)): %s, %d", told(k), told(again), e)
	}
	return s
}

func TestAnyCones(t *testing.T) {
	r := rand.New(rand.NewSource(1701))
	for range 20000 {
		k := anyCones(r, 1+r.Intn(20), 1+r.Intn(12))
		asWords(t, k)
		bothWays(t, k)
	}
	for range 20 {
		asWords(t, anyCones(r, 1000, 12))
	}
}

// TestAnyTexts: Write(Read(s)) is s, and what is read is a text by the oracle; s are texts of cones, changed in a few places, so that some of them are texts again.
func TestAnyTexts(t *testing.T) {
	r := rand.New(rand.NewSource(1702))
	isOne := 0
	for range 60000 {
		s := anyText(r)
		k, e := profile.Read(s)
		if readsAsWords(t, s) != (e == api.OK) {
			t.Fatalf("P17.2: Read(%q): %q, %d", s, k, e)
		}
		if e != api.OK {
			continue
		}
		isOne++
		if again, e := profile.Write(k); e != api.OK || again != s {
			t.Fatalf("P17.3: Write(Read(%q)): %q, %d", s, again, e)
		}
		if e := cone.Valid(k); e != api.OK {
			t.Fatalf("P17.2: Read(%q): %q are no cones", s, k)
		}
	}
	if isOne < 5000 {
		t.Errorf("the test has only %d texts", isOne)
	}
}

func anyText(r *rand.Rand) string {
	lines := linesOf(textOf(anyCones(r, 1+r.Intn(6), 1+r.Intn(4))))
	for range r.Intn(3) {
		at := r.Intn(len(lines))
		switch d := anyPath(r, 3); r.Intn(6) {
		case 0:
			lines = slices.Delete(lines, at, at+1)
		case 1:
			lines = slices.Insert(lines, at, "/"+d+"/\n")
		case 2:
			lines = slices.Insert(lines, at, "/"+d+"/\n", "!/"+d+"/*/\n")
		case 3:
			lines[at] = strings.Replace(lines[at], "a", "b", 1)
		case 4:
			other := r.Intn(len(lines))
			lines[at], lines[other] = lines[other], lines[at]
		case 5:
			lines[at] = strings.Replace(lines[at], "/", string([]byte{byte(r.Intn(256))}), 1)
		}
		if len(lines) == 0 {
			return ""
		}
	}
	return strings.Join(lines, "")
}

// matches: does a line, without its end, match a file?
func matches(line, p string) bool {
	switch {
	case line == "/*":
		return true
	case line == "!/*/":
		return dirOf(p) != ""
	case strings.HasPrefix(line, "!"):
		d := strings.TrimSuffix(strings.TrimPrefix(line, "!/"), "/*/")
		return isAbove(d, p) && dirOf(p) != d
	}
	return isAbove(strings.Trim(line, "/"), p)
}

// saysShown: does the last line that matches a file show it?
func saysShown(t *testing.T, s, p string) bool {
	t.Helper()
	lines := strings.Split(strings.TrimSuffix(s, "\n"), "\n")
	for i := len(lines) - 1; i >= 0; i-- {
		if matches(lines[i], p) {
			return !strings.HasPrefix(lines[i], "!")
		}
	}
	t.Fatalf("P17.3: no line of %q matches %q", s, p)
	return false
}

func TestTheLastLineThatMatches(t *testing.T) {
	for _, c := range []struct {
		k    []string
		yes  string
		none string
	}{
		{nil, "f TARGETS", "a/f a/b/f"},
		{[]string{""}, "f a/f a/b/f", ""},
		{words("a"), "f a/f a/b/f a/b/c/f", "a-b/f ab/f b/a/f"},
		{words("a/b"), "f a/f a/b/f a/b/c/f", "a/c/f a/b-c/f a-b/f b/f"},
		{words("a/b/c b"), "f a/f a/b/f a/b/c/f a/b/c/d/f b/f b/c/f", "a/c/f a/b/d/f a/b/cc/f c/f"},
		{words("a/b a/c a-b/c"), "f a/f a/b/f a/c/f a-b/f a-b/c/f a-b/c/d/f", "a/d/f a-b/d/f a.b/f"},
	} {
		s := bothWays(t, c.k)
		for _, p := range words(c.yes) {
			if !saysShown(t, s, p) || !cone.Shows(c.k, p) {
				t.Errorf("P17.3: %q hides %q", s, p)
			}
		}
		for _, p := range words(c.none) {
			if saysShown(t, s, p) || cone.Shows(c.k, p) {
				t.Errorf("P17.3: %q shows %q", s, p)
			}
		}
	}
}

// asShown: the text says of each file what the cones say.
func asShown(t *testing.T, k, files []string) {
	t.Helper()
	s := bothWays(t, k)
	for _, p := range files {
		if says, shown := saysShown(t, s, p), cone.Shows(k, p); says != shown {
			t.Fatalf("P17.3: of the file %q the lines %q say %v, and the cones %q %v", p, s, says, k, shown)
		}
	}
}

func TestTextsShowWhatConesShow(t *testing.T) {
	files := words("f TARGETS a.b/c/f x/f x/y/z/f")
	for _, d := range someDirs {
		files = append(files, d, d+"/f", d+"/a/f", d+"/c/f", d+"/c/d/f", d+"f/g", d+"-/g")
	}
	allCones(someDirs, func(k []string) { asShown(t, k, files) })
	r := rand.New(rand.NewSource(1703))
	for range 3000 {
		depth := 1 + r.Intn(6)
		var drawn []string
		for range 50 {
			drawn = append(drawn, anyPath(r, depth+1), anyPath(r, depth)+"/f")
		}
		asShown(t, anyCones(r, 8, depth), drawn)
	}
}

// TestTextsOfBuilds: of the cover of a closure, and merged, the view is what the text says.
func TestTextsOfBuilds(t *testing.T) {
	manifest := func(p, text string) api.File { return api.File{Path: p, Text: text, Size: len(text)} }
	l := []api.File{
		manifest("TARGETS", "target a { srcs = [r.c] deps = [//x:b, //x/w:d] }"),
		{Path: "r.c"},
		{Path: "s.c"},
		manifest("x/TARGETS", "target b { see = [public] }"),
		manifest("x/w/TARGETS", "target d { srcs = [u/t/f] deps = [//z/v:e] see = [public] }"),
		{Path: "x/w/u/t/f"},
		{Path: "x/y/q/b"},
		{Path: "z/f"},
		manifest("z/v/TARGETS", "target e { srcs = [u/f] see = [public] }"),
		{Path: "z/v/u/f"},
		{Path: "z/w/f"},
	}
	for _, c := range []struct {
		label api.Label
		text  string
	}{
		{api.Label{Name: "a"}, joined("/x/", "/z/", "!/z/*/", "/z/v/")},
		{api.Label{Pkg: "x/w", Name: "d"}, joined("/x/", "!/x/*/", "/x/w/", "/z/", "!/z/*/", "/z/v/")},
		{api.Label{Pkg: "z/v", Name: "e"}, joined("/z/", "!/z/*/", "/z/v/")},
	} {
		ps, f := closure.Of(l, []api.Label{c.label})
		if f.Code != api.OK {
			t.Fatalf("no build of %v: %+v", c.label, f)
		}
		k := cone.Cover(ps)
		writes(t, k, c.text)
		for budget := 1; budget <= 3; budget++ {
			fewer, _ := merge.Down(l, k, budget)
			s := bothWays(t, fewer)
			view, _ := cone.View(l, fewer)
			for _, file := range l {
				if says, shown := saysShown(t, s, file.Path), slices.Contains(view, file); says != shown {
					t.Errorf("P17.3: of %q the lines %q say %v, and the view under %q %v", file.Path, s, says, fewer, shown)
				}
			}
		}
	}
}

// P17.4

const mark = "mark/mark"

// withRoom is a list with spare room behind it, and both as one list.
func withRoom(items []string) (list, whole []string) {
	whole = append(slices.Clone(items), mark, mark, mark, mark)
	return whole[:len(items)], whole
}

// fill writes over a list and its spare room.
func fill(l []string) {
	l = l[:cap(l)]
	for i := range l {
		l[i] = mark
	}
}

func TestWhatIsHandedInStays(t *testing.T) {
	all := append([][]string{words("b c"), words("mark"), words("mark/mark"), flat(8192)}, noCones...)
	for _, c := range texts {
		all = append(all, c.k)
	}
	for _, items := range all {
		k, whole := withRoom(items)
		was := slices.Clone(whole)
		asWords(t, k) // what the spare room has plays no part
		s, e := profile.Write(k)
		if !slices.Equal(whole, was) {
			t.Fatalf("P17.4: Write(%s) changed its list: %s", told(items), told(whole))
		}
		fill(whole)
		if e == api.OK && s != textOf(items) {
			t.Fatalf("P17.4: the text of %s changed with its list: %s", told(items), told(s))
		}
	}
}

func TestAnswersAreNew(t *testing.T) {
	for _, c := range texts {
		first, _ := profile.Read(c.text)
		second, _ := profile.Read(c.text)
		longer := append(second, "x", "y")
		fill(first)
		_ = append(first, mark)
		if !slices.Equal(second, c.k) || !slices.Equal(longer, append(slices.Clone(c.k), "x", "y")) {
			t.Fatalf("P17.4: two answers of Read(%q) share memory: %q, %q", c.text, second, longer)
		}
		fill(second)
		reads(t, c.text, c.k)
		writes(t, c.k, c.text)
	}
}

// TestReadKeepsNothing: the bytes that a text was made of are written over.
func TestReadKeepsNothing(t *testing.T) {
	for _, c := range texts {
		b := []byte(c.text)
		k, e := profile.Read(string(b))
		for i := range b {
			b[i] = 'x'
		}
		if e != api.OK || !slices.Equal(k, c.k) {
			t.Fatalf("P17.4: Read(%q): %q, %d", c.text, k, e)
		}
	}
}

// TestNothingIsKept: an answer hangs on its arguments, not on the calls ahead of it.
func TestNothingIsKept(t *testing.T) {
	k := words("a b")
	writes(t, k, joined("/a/", "/b/"))
	k[0] = "a/c"
	writes(t, k, joined("/a/", "!/a/*/", "/a/c/", "/b/"))
	k[0] = "c"
	writesNot(t, k, api.ErrCone)
	writesNot(t, flat(9000), api.ErrText)
	readsNot(t, joined("/b/", "/a/"))
	k[0] = "a"
	writes(t, k, joined("/a/", "/b/"))
	reads(t, joined("/a/"), words("a"))
	readsNot(t, joined("/a/", "!/a/*/"))
	reads(t, joined("/a/"), words("a"))
	writes(t, nil, joined())
	reads(t, joined(), nil)
}
