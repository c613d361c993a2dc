package script_test

import (
	"fmt"
	"slices"
	"strings"
	"testing"

	"copse/api"
	"copse/script"
)

// does holds one line of a talk against its answer.
func does(t *testing.T, promise string, s *script.Session, line string, want ...string) {
	t.Helper()
	if got := s.Do(line); !slices.Equal(got, want) {
		t.Fatalf("%s: Do(%q): %q, want %q", promise, line, got, want)
	}
}

// talks holds lines, each with "=>" and its answer behind it, whose lines are parted by "|"; between < and > stands a manifest's text.
func talks(t *testing.T, s *script.Session, text string) {
	t.Helper()
	for _, line := range strings.Split(strings.Trim(text, "\n\t"), "\n") {
		line, answer, _ := strings.Cut(strings.TrimLeft(line, "\t"), " => ")
		if head, text, is := strings.Cut(line, " <"); is {
			line = head + " " + spelt(strings.TrimSuffix(text, ">"))
		}
		does(t, "P25.1", s, line, strings.Split(answer, " | ")...)
	}
}

// state is all that the questions tell.
func state(s *script.Session) []string {
	var l []string
	for _, q := range append(questions(), "impact a/TARGETS", "impact b/y.c") {
		l = append(append(l, s.Do(q)...), "")
	}
	return l
}

// stays holds lines that are refused, or say nothing: behind each of them all is as it was.
func stays(t *testing.T, s *script.Session, want []string, lines ...string) {
	t.Helper()
	was := state(s)
	for _, line := range lines {
		does(t, "P25.1", s, line, want...)
		if is := state(s); !slices.Equal(is, was) {
			t.Fatalf("P25.1: behind %q: %q, want %q", line, is, was)
		}
	}
}

func refuses(t *testing.T, s *script.Session, e api.Errno, lines ...string) {
	t.Helper()
	stays(t, s, []string{fmt.Sprintf("error %d", e)}, lines...)
}

// grove is a talk with three packages: a needs b, c stands alone.
func grove(t *testing.T) *script.Session {
	t.Helper()
	s := script.New()
	talks(t, s, `
		put a/x.c 1 10 => ok
		put a/s/1.c 2 20 => ok
		put b/y.c 3 30 => ok
		put c/d/z.c 4 40 => ok
		put r 5 50 => ok
		say a/TARGETS <target a { srcs = [x.c, s/*.c] deps = [//b:b] }> => ok
		say b/TARGETS <target b { srcs = [y.c] see = [//a] }> => ok
		say c/d/TARGETS <target d { srcs = [z.c] }> => ok
		want //a:a => ok
		budget 2 => ok`)
	return s
}

// The examples of the chapter.

func TestExample1(t *testing.T) {
	talks(t, script.New(), `
		put a/x.c 1 10 => ok
		say a/TARGETS 7461726765742061207b2073726373203d205b782e635d207d => ok
		want //a:a => ok
		cones => cones a
		closure => closure a/TARGETS a/x.c
		build => //a:a a/x.c
		impact a/x.c => impact //a:a
		cut a/x.c => ok
		cones => fault 2 //a:a a/x.c
		budget 0 => ok
		cones => fault 6`)
	if text := "target a { srcs = [x.c] }"; spelt(text) != "7461726765742061207b2073726373203d205b782e635d207d" {
		t.Errorf("%q is spelt %s", text, spelt(text))
	}
}

func TestExample2(t *testing.T) {
	talks(t, script.New(), `
		put a 1 1 => ok
		put a/x.c 1 1 => error 9
		cut q => error 20
		put a/TARGETS 1 1 => error 8
		frob => error 18
		want a => error 18
		want //a:a => ok
		want //a:a => error 19`)
	s := script.New()
	does(t, "P25.1", s, "put a/x.c 1 1", "ok")
	refuses(t, s, api.ErrDelta, "put a 1 1")
}

// Lines.

func TestBegin(t *testing.T) {
	talks(t, script.New(), `
		cones => fault 6
		profile => fault 6
		closure => closure
		impact => impact
		impact a . => impact
		cut a => error 20
		drop //a:a => error 20`)
	s := script.New()
	does(t, "P25.1", s, "files")
	does(t, "P25.1", s, "build")
	// The budget is 1.
	talks(t, s, `
		say a/TARGETS <target a{}> => ok
		say b/TARGETS <target b{}> => ok
		want //a:a => ok
		want //b:b => ok
		cones => cones .
		budget 2 => ok
		cones => cones a b`)
}

func TestLinesThatSayNothing(t *testing.T) {
	for _, s := range []*script.Session{script.New(), grove(t)} {
		stays(t, s, nil, quiet()...)
		stays(t, s, nil, strings.Repeat(" ", 100000), "#put a 1 1", "# cut a/x.c", "#drop //a:a", "   # budget 0", "##", "#=", "# \x00\xff\t", "#"+strings.Repeat("x ", 50000))
	}
}

func TestLinesWithByte10(t *testing.T) {
	for _, s := range []*script.Session{script.New(), grove(t)} {
		refuses(t, s, api.ErrText, "\n", "\n\n", " \n", "#\n", "\n#", "# put a 1 1\n", "cones\n", "\ncones", "files\nfiles", "put q 1 1\n", "\nput q 1 1", "put q 1 1\nput p 1 1", "put q\n1 1",
			"put q 1\n 1", "put q 1 1\n#", "cut a/x.c\n", "drop //a:a\n", "drop //a:a \n", "budget 0\n", "want //q:q\n", "say q/TARGETS -\n", "say q/TARGETS 0a\n", "impact a\nb")
	}
}

func TestBlanks(t *testing.T) {
	talks(t, grove(t), `
		put    q   1    2 => ok
		say   q.d/TARGETS     - => ok
		  impact     a/x.c   b/y.c => impact //a:a //b:b`)
	s := grove(t)
	does(t, "P25.1", s, "     cones     ", "cones a b")
	does(t, "P25.1", s, " closure ", "closure a/TARGETS a/s/1.c a/x.c b/TARGETS b/y.c")
	does(t, "P25.1", s, strings.Repeat(" ", 5000)+"put"+strings.Repeat(" ", 5000)+"q 7"+strings.Repeat(" ", 5000)+"8"+strings.Repeat(" ", 5000), "ok")
	does(t, "P25.1", s, "cut q ", "ok")
	does(t, "P25.1", s, "impact    ", "impact")
	// No other byte parts words, and each is of the word it stands in.
	for c := range 256 {
		if c != ' ' && c != '\n' {
			b := string([]byte{byte(c)})
			refuses(t, s, api.ErrText, "cones"+b, "files"+b, "put"+b+"q 1 1", "put q"+b+"1 1", "put q 1"+b+"1", "put q 1 1 "+b, "cut"+b+"a/x.c", "want //q:q "+b, "budget "+b+" 1")
		}
	}
	for _, b := range []string{"\t", "\r", "\v", "\f", "\x00", "\u0085", "\u00a0", "\u2003", "\u3000", "\ufeff", "\xff"} {
		refuses(t, s, api.ErrText, b, b+"#", b+" #", b+"cones", b+" cones", "cones "+b, "put q 1 1"+b, "put"+b+" q 1 1", "put q"+b+" 1 1", "cut a/x.c"+b, "drop //a:a"+b, "budget 0"+b, "impact a"+b)
	}
}

func TestFirstWords(t *testing.T) {
	refuses(t, grove(t), api.ErrText, "frob", "x", "1", "-", ".", "/", "//a:a", "=", "= f r 5 50", "ok", "error 18", "fault 6", "t", "f r 5 50", "PUT q 1 1", "Put q 1 1", "CONES", "Cones",
		"pu q 1 1", "putt q 1 1", "put# q 1 1", "cone", "coness", "file", "files#", "builds", "profiles", "closures", "impacts", "buildclosure", "add //q:q", "cut# a/x.c", "Drop //a:a", "q# put q 1 1", "budge 0")
}

// rightWords are the words of a line of each kind, all of which may be.
func rightWords() map[string][]string {
	return map[string][]string{
		"put": {"q", "1", "1"}, "say": {"q/TARGETS", "61"}, "cut": {"a/x.c"}, "want": {"//q:q"}, "drop": {"//a:a"}, "budget": {"0"},
		"cones": nil, "build": nil, "closure": nil, "profile": nil, "files": nil,
	}
}

// TestHowManyWords: one word too few and too many, at each place, and many more.
func TestHowManyWords(t *testing.T) {
	fill := []string{"1", "q", ".", "-", "//q:q", "61", "#", "put", "0"}
	for word, args := range rightWords() {
		s := grove(t)
		for n := range len(args) {
			refuses(t, s, api.ErrText, strings.Join(append([]string{word}, args[:n]...), " "), strings.Join(append([]string{word}, args[n+1:]...), " ")+" ")
		}
		for at := range len(args) + 1 {
			for _, more := range fill {
				words := slices.Insert(append([]string{word}, args...), 1+at, more)
				refuses(t, s, api.ErrText, strings.Join(words, " "))
			}
		}
		refuses(t, s, api.ErrText, word+strings.Repeat(" 1", 1000), word+" "+strings.Join(args, " ")+" "+strings.Join(args, " ")+" q")
	}
	for word, args := range rightWords() {
		if got := grove(t).Do(strings.Join(append([]string{word}, args...), " ")); slices.Equal(got, []string{"error 18"}) {
			t.Errorf("P25.1: %s %q: %q", word, args, got)
		}
	}
	for n := range 200 {
		does(t, "P25.1", grove(t), "impact"+strings.Repeat(" b/y.c", n)+" r", []string{"impact //a:a //b:b", "impact"}[1-min(n, 1)])
	}
}

// Numbers.

// noNumbers are words that are no N, and no int.
func noNumbers() []string {
	return []string{"00", "01", "007", "+1", "+0", "-0", "-00", "-01", "--1", "-+1", "-", "+", "1-", "1.", "1.0", ".5", "1e3", "0x1", "0b1", "0o7", "1_0", "1,0", "a", "1a", "a1", "\u0661", "\uff11", "1\x00", "\xff", "inf", "NaN",
		"9223372036854775808", "9223372036854775807000", "18446744073709551616", "18446744073709551617", "36893488147419103233", "00000000000000000001", strings.Repeat("9", 1000), strings.Repeat("0", 1000), "1" + strings.Repeat("0", 100000)}
}

func TestNumbers(t *testing.T) {
	s := grove(t)
	for _, w := range noNumbers() {
		refuses(t, s, api.ErrText, "put q "+w+" 1", "put q 1 "+w, "put q "+w+" "+w, "put r 5 "+w, "budget "+w)
		refuses(t, s, api.ErrText, "put TARGETS "+w+" 1", "put . 1 "+w, "put r/x "+w+" 1") // ahead of all other errors
	}
	refuses(t, s, api.ErrText, "put q -1 1", "put q 1 -1", "put q -9223372036854775808 1", "put q 1 -9223372036854775808", "budget -9223372036854775809", "budget -18446744073709551615", "budget -"+strings.Repeat("9", 1000))
	// What may be a number, but not a file's.
	refuses(t, s, api.ErrSnap, "put q 1152921504606846977 1", "put q 9223372036854775807 1", "put q 1 4611686018427387905", "put q 1 9223372036854775807", "put q 9223372036854775807 9223372036854775807", "put r 5 4611686018427387905")
	for _, c := range [][2]string{{"0", "0"}, {"1", "0"}, {"0", "1"}, {"9", "10"}, {"1234567890", "9876543210"}, {"1152921504606846976", "4611686018427387904"}, {"1152921504606846975", "4611686018427387903"}, {"0", "4611686018427387904"}} {
		s := script.New()
		does(t, "P25.1", s, "put q "+c[0]+" "+c[1], "ok")
		does(t, "P25.1", s, "files", "= f q "+c[0]+" "+c[1])
	}
}

// Paths.

func longPaths() []string {
	comp := strings.Repeat("c", 32)
	return []string{comp, strings.TrimSuffix(strings.Repeat("d/", 12), "/"), comp + "/" + comp + "/" + comp + "/" + strings.Repeat("e", 21)}
}

func noPaths() []string {
	comp := strings.Repeat("c", 32)
	return []string{"/", "//", "/a", "a/", "a//b", "..", "...", "./a", "a/.", "a/./b", "../a", "a/..", "a/.../b", "a/...", "*", "a*", "a/*.c", "a\\b", "a:b", "//a:a", "a,b", "a=b", "~", "#", "a#", "\"a\"", "a\tb", "a\x00", "\x7f", "\xff", "é", "ａ",
		comp + "c", "a/" + comp + "c/b", strings.Repeat("d/", 12) + "d", comp + "/" + comp + "/" + comp + "/" + strings.Repeat("e", 22), strings.Repeat("a/", 100000) + "a", strings.Repeat("a", 100000)}
}

func TestPaths(t *testing.T) {
	for _, p := range append(longPaths(), "a", "a/b", "Z", "0", "9.9", "-", "--", "_", "....", "..a", "a..", ".a", "a.", "-1", "a-b_c.D", "put", "TARGETS.c", "aTARGETS", "targets", "TARGETS/x") {
		talks(t, script.New(), "put "+p+" 7 8 => ok\n impact "+p+" => impact\n files => = f "+p+" 7 8\n say "+p+" - => error 8\n cut "+p+" => ok\n cut "+p+" => error 20")
	}
	s := grove(t)
	for _, p := range noPaths() {
		refuses(t, s, api.ErrText, "put "+p+" 1 1", "say "+p+" 61", "say "+p+" -", "cut "+p, "impact "+p, "impact a/x.c "+p, "impact "+p+" a/x.c", "put "+p+"/TARGETS 1 1", "say "+p+"/TARGETS -", "cut "+p+"/TARGETS")
	}
}

func TestTheRoot(t *testing.T) {
	s := grove(t)
	refuses(t, s, api.ErrSnap, "put . 1 1", "put . 0 0", "put . 9223372036854775807 0", "say . -", "say . 61")
	refuses(t, s, api.ErrNone, "cut .")
	talks(t, s, `
		impact . => impact
		impact . a/x.c . => impact //a:a`)
	does(t, "P25.1", script.New(), "put . 1 1", "error 8")
	does(t, "P25.1", script.New(), "cut .", "error 20")
	refuses(t, s, api.ErrText, "want .", "want //.:a", "drop .", "put ./TARGETS 1 1", "put . 1", "put . 01 1", "say . 6", "cut . .")
}

// Bytes.

func TestBytes(t *testing.T) {
	all := make([]byte, 256)
	for c := range all {
		all[c] = byte(c)
	}
	for _, text := range []string{"", "a", "\x00", "\n", " ", "-", "target a{}", "\xff\xfe", string(all), strings.Repeat("\x0a", 5000)} {
		s := script.New()
		does(t, "P25.1", s, "say a/TARGETS "+spelt(text), "ok")
		does(t, "P25.1", s, "files", fmt.Sprintf("= t a/TARGETS %x", text))
	}
	s := grove(t)
	refuses(t, s, api.ErrText, "say q/TARGETS 6", "say q/TARGETS 616", "say q/TARGETS 6A", "say q/TARGETS A6", "say q/TARGETS FF", "say q/TARGETS 6g", "say q/TARGETS g6", "say q/TARGETS 0x61", "say q/TARGETS 0X", "say q/TARGETS +1", "say q/TARGETS -1", "say q/TARGETS --",
		"say q/TARGETS -61", "say q/TARGETS 61-", "say q/TARGETS 6\x001", "say q/TARGETS \xff\xff", "say q/TARGETS 6_61", "say q/TARGETS a", "say q/TARGETS target", "say q/TARGETS 61 62", "say q/TARGETS \"\"",
		"say q/TARGETS "+strings.Repeat("61", 50000)+"6", "say q/TARGETS "+strings.Repeat("61", 50000)+"6G", "say a/x.c 6", "say a/TARGETS 6")
	// Each byte as the first and as the second digit.
	for c := range 256 {
		b := string([]byte{byte(c)})
		if c == ' ' || c == '\n' {
			continue
		}
		for _, w := range []string{b + "0", "0" + b, "61" + b + "0", "610" + b} {
			want := "error 18"
			if strings.Contains("0123456789abcdef", b) {
				want = "ok"
			}
			does(t, "P25.1", script.New(), "say q/TARGETS "+w, want)
		}
	}
}

// put, say, cut.

func TestPut(t *testing.T) {
	talks(t, script.New(), `
		put b 1 2 => ok
		put a/c 3 4 => ok
		put a-c 5 6 => ok
		files => = f a/c 3 4 | = f a-c 5 6 | = f b 1 2
		put b 1 2 => ok
		files => = f a/c 3 4 | = f a-c 5 6 | = f b 1 2
		put b 1 3 => ok
		put a/c 4 4 => ok
		put a-c 0 0 => ok
		files => = f a/c 4 4 | = f a-c 0 0 | = f b 1 3
		put a 1 1 => error 9
		put b/c 1 1 => error 9
		put a/c/d/e 1 1 => error 9
		put a/d 1 1 => ok
		cut a/c => ok
		put a/c/d/e 1 1 => ok
		files => = f a/c/d/e 1 1 | = f a/d 1 1 | = f a-c 0 0 | = f b 1 3`)
	refuses(t, grove(t), api.ErrSnap, "put TARGETS 1 1", "put TARGETS 0 0", "put a/TARGETS 0 0", "put a/TARGETS 0 1", "put q/TARGETS 0 0", "put a/x.c/TARGETS 0 0", "put r/TARGETS 1 1", "put TARGETS/TARGETS 0 0")
	// Ahead of what makes no snapshot: what may be no file.
	refuses(t, grove(t), api.ErrSnap, "put a 1152921504606846977 1", "put a/x.c/y 1 4611686018427387905", "put r/x 9223372036854775807 0")
	refuses(t, grove(t), api.ErrDelta, "put a 1 1", "put a/s 1 1", "put b 0 0", "put c 1 1", "put c/d 1 1", "put r/x 1 1", "put a/x.c/y 1 1", "put a/TARGETS/x 1 1", "put a/x.c/y/z/w 0 0", "put c/d/z.c/z.c 4 40")
}

func TestSay(t *testing.T) {
	talks(t, script.New(), `
		say a/TARGETS 61 => ok
		say TARGETS - => ok
		say TARGETS.d/TARGETS 00 => ok
		files => = t TARGETS  | = t TARGETS.d/TARGETS 00 | = t a/TARGETS 61
		say a/TARGETS 61 => ok
		say TARGETS - => ok
		files => = t TARGETS  | = t TARGETS.d/TARGETS 00 | = t a/TARGETS 61
		say a/TARGETS - => ok
		say TARGETS 6162 => ok
		files => = t TARGETS 6162 | = t TARGETS.d/TARGETS 00 | = t a/TARGETS 
		put TARGETS.d/TARGETS/x 1 1 => error 9
		say TARGETS/TARGETS - => error 9
		cut TARGETS => ok
		say TARGETS/TARGETS - => ok
		say TARGETS - => error 9`)
	refuses(t, grove(t), api.ErrSnap, "say a 61", "say a -", "say q -", "say a/x.c -", "say a/x.c 61", "say a/TARGETS/x 61", "say TARGETS.c 61", "say aTARGETS 61", "say targets 61", "say r/x 61", "say a/TARGETSS -")
	refuses(t, grove(t), api.ErrDelta, "say r/TARGETS 61", "say a/x.c/TARGETS -", "say a/TARGETS/TARGETS -", "say b/y.c/q/TARGETS 00")
	// A manifest may be longer than one that parses.
	long := strings.Repeat(" ", api.MaxManifest+1)
	talks(t, script.New(), "say TARGETS "+spelt(long[1:])+" => ok\n want //:n => ok\n cones => fault 2 //:n -\n say TARGETS "+spelt(long)+" => ok\n cones => fault 1 TARGETS 4096")
}

func TestCut(t *testing.T) {
	talks(t, grove(t), `
		cut a => error 20
		cut q => error 20
		cut a/x.c/y => error 20
		cut TARGETS => error 20
		cut a/x.c => ok
		cut a/x.c => error 20
		cut c/d/TARGETS => ok
		cut c/d/TARGETS => error 20
		cut b/y.c => ok
		cut b/TARGETS => ok
		put b 7 7 => ok
		put a/x.c/y 8 8 => ok
		cut a/s/1.c => ok
		cut r => ok
		cut a/TARGETS => ok
		files => = f a/x.c/y 8 8 | = f b 7 7 | = f c/d/z.c 4 40
		cut b => ok
		cut c/d/z.c => ok
		cut a/x.c/y => ok
		cut a/x.c/y => error 20
		put a 1 1 => ok`)
	refuses(t, grove(t), api.ErrNone, "cut q", "cut a", "cut a/s", "cut c", "cut TARGETS", "cut r/TARGETS", "cut q/TARGETS", "cut R", "cut a/x", "cut a/x.cc")
}

// TestAsManyFilesAsMayBe: MaxFiles, and one more.
func TestAsManyFilesAsMayBe(t *testing.T) {
	s := script.New()
	var want []string
	for i := range api.MaxFiles {
		does(t, "P25.1", s, fmt.Sprintf("put f%03d %d %d", i, i, 2*i), "ok")
		want = append(want, fmt.Sprintf("= f f%03d %d %d", i, i, 2*i))
	}
	does(t, "P25.1", s, "files", want...)
	refuses(t, s, api.ErrDelta, "put q 1 1", "say TARGETS -", "say q/TARGETS 61", "put f000/x 1 1")
	refuses(t, s, api.ErrSnap, "put TARGETS 1 1", "say q -")
	does(t, "P25.1", s, "put f511 1 1", "ok")
	does(t, "P25.1", s, "put f511 1 1", "ok")
	does(t, "P25.1", s, "cut f000", "ok")
	does(t, "P25.1", s, "say q/TARGETS -", "ok")
	refuses(t, s, api.ErrDelta, "put f000 0 0")
	does(t, "P25.1", s, "files", append(append(want[1:511:511], "= f f511 1 1"), "= t q/TARGETS ")...)
}

// want, drop, budget.

func TestWantAndDrop(t *testing.T) {
	talks(t, grove(t), `
		want //a:a => error 19
		drop //b:b => error 20
		want //b:b => ok
		want //b:b => error 19
		want //q:q => ok
		cones => fault 2 //q:q -
		drop //q:q => ok
		drop //q:q => error 20
		drop //a:a => ok
		drop //a:a => error 20
		cones => cones b
		want //:n => ok
		want //TARGETS:TARGETS => ok
		drop //TARGETS:TARGETS => ok
		drop //:n => ok
		drop //b:b => ok
		drop //b:b => error 20
		cones => fault 6
		closure => closure
		want //a:a => ok
		closure => closure a/TARGETS a/s/1.c a/x.c b/TARGETS b/y.c`)
	s := grove(t)
	long := longPaths()
	for _, l := range []string{"//-:-", "//....:..n", "//" + long[0] + ":" + long[0], "//" + long[1] + ":n", "//" + long[2] + ":n"} {
		does(t, "P25.1", s, "drop "+l, "error 20")
		does(t, "P25.1", s, "want "+l, "ok")
		does(t, "P25.1", s, "want "+l, "error 19")
		does(t, "P25.1", s, "drop "+l, "ok")
	}
	for _, l := range []string{"a", "a:a", ":a", "/a:a", "///a:a", "//", "//:", "//a", "//a:", "//a:b:c", "//a:b/c", "//a/:n", "//a//b:n", "//..:n", "//.:n", "//a:.", "//a:..", "//a:...", "//...", "//a/...", "//a/...:n", "public", "-", ".", "a/b:n", "\\\\a:a",
		"//a:a\t", "//a:\x00", "//a\xff:a", "//a:*", "//" + long[0] + "c:n", "//a:" + long[0] + "c", "//" + long[1] + "/d:n", "//" + long[2] + "e:n", "//" + strings.Repeat("a/", 50000) + "a:n"} {
		refuses(t, s, api.ErrText, "want "+l, "drop "+l)
	}
}

// TestAsManyLabelsAsMayBe: MaxTargets, and one more; one that is there is that first.
func TestAsManyLabelsAsMayBe(t *testing.T) {
	s := script.New()
	for i := range api.MaxTargets {
		does(t, "P25.1", s, fmt.Sprintf("want //p:n%02d", i), "ok")
	}
	refuses(t, s, api.ErrArg, "want //p:n64", "want //:n")
	refuses(t, s, api.ErrThere, "want //p:n00", "want //p:n63")
	refuses(t, s, api.ErrText, "want p")
	does(t, "P25.1", s, "drop //p:n07", "ok")
	does(t, "P25.1", s, "want //:n", "ok")
	refuses(t, s, api.ErrArg, "want //p:n07")
	does(t, "P25.1", s, "cones", "fault 2 //:n -")
}

func TestBudget(t *testing.T) {
	s := grove(t)
	for _, c := range [][2]string{
		{"1", "cones ."}, {"2", "cones a b"}, {"3", "cones a b"}, {"64", "cones a b"}, {"65", "cones a b"}, {"4294967296", "cones a b"}, {"4294967297", "cones a b"}, {"9223372036854775807", "cones a b"},
		{"0", "fault 6"}, {"-1", "fault 6"}, {"-10", "fault 6"}, {"-4294967295", "fault 6"}, {"-9223372036854775807", "fault 6"}, {"-9223372036854775808", "fault 6"},
	} {
		does(t, "P25.1", s, "budget "+c[0], "ok")
		does(t, "P25.1", s, "cones", c[1])
		does(t, "P25.1", s, "closure", "closure a/TARGETS a/s/1.c a/x.c b/TARGETS b/y.c")
		refuses(t, s, api.ErrText, "budget", "budget 01", "budget -0", "budget 9223372036854775808")
	}
}
