package script_test

import (
	"fmt"
	"math/rand"
	"strings"
	"testing"

	"copse/api"
	"copse/script"
)

func runs(t *testing.T, text, want string) {
	t.Helper()
	if got := script.Run(text); got != want {
		t.Fatalf("P25.2: Run(%d bytes, %q ..): %q, want %q", len(text), text[:min(len(text), 200)], got, want)
	}
}

// byLines is what New and Do answer, line by line.
func byLines(lines ...string) string {
	s := script.New()
	var answers strings.Builder
	for _, line := range lines {
		for _, a := range s.Do(line) {
			answers.WriteString(a + "\n")
		}
	}
	return answers.String()
}

func TestRunExample1(t *testing.T) {
	lines := []string{"put a/x.c 1 10", said("a/TARGETS", "target a { srcs = [x.c] }"), "want //a:a", "cones", "closure", "build", "impact a/x.c", "cut a/x.c", "cones", "budget 0", "cones"}
	want := "ok\nok\nok\ncones a\nclosure a/TARGETS a/x.c\n//a:a a/x.c\nimpact //a:a\nok\nfault 2 //a:a a/x.c\nok\nfault 6\n"
	runs(t, strings.Join(lines, "\n"), want)
	runs(t, strings.Join(lines, "\n")+"\n", want)
}

func TestRunExample2(t *testing.T) {
	runs(t, "put a 1 1\nput a/x.c 1 1\ncut q\nput a/TARGETS 1 1\nfrob\nwant a\nwant //a:a\nwant //a:a\n", "ok\nerror 9\nerror 20\nerror 8\nerror 18\nerror 18\nok\nerror 19\n")
}

// TestLinesOfTexts: ended or not, empty, with blanks, answered by none, one, many lines.
func TestLinesOfTexts(t *testing.T) {
	for text, want := range map[string]string{
		"": "", "\n": "", "\n\n\n": "", " ": "", " \n ": "", "#": "", "#\n": "", "# put a 1 1\n#": "",
		"cones": "fault 6\n", "cones\n": "fault 6\n", "\ncones": "fault 6\n", "\n\n cones \n\n": "fault 6\n", "cones\ncones": "fault 6\nfault 6\n", "cones\ncones\n": "fault 6\nfault 6\n",
		"files": "", "files\n": "", "files\nbuild\nclosure\n": "closure\n", "frob": "error 18\n", "frob\n\nfrob": "error 18\nerror 18\n",
		"put a 1 1\nput b 2 2\nfiles": "ok\nok\n= f a 1 1\n= f b 2 2\n", "put a 1 1\nfiles\nput b 2 2\nfiles\n": "ok\n= f a 1 1\nok\n= f a 1 1\n= f b 2 2\n",
		"cones\r\ncones\r": "error 18\nerror 18\n", "cones\rcones": "error 18\n", "put a 1\n1": "error 18\nerror 18\n", "cones\x00": "error 18\n", "\xff\n\xfe": "error 18\nerror 18\n", "\u2028\n\u0085": "error 18\nerror 18\n",
		"say TARGETS -\nfiles": "ok\n= t TARGETS \n", "say TARGETS 0a0a\nfiles\n": "ok\n= t TARGETS 0a0a\n",
	} {
		runs(t, text, want)
		runs(t, text, byLines(strings.Split(text, "\n")...)) // behind a last byte 10 that is a line that says nothing
	}
}

// TestLongTexts: MaxText bytes, and one more, wherever it is.
func TestLongTexts(t *testing.T) {
	const talk, answer = "put a 1 1\nfiles\n", "ok\n= f a 1 1\n"
	room := api.MaxText - len(talk)
	for _, c := range [][2]string{{talk + "#" + strings.Repeat("x", room-1), answer}, {talk + strings.Repeat(" ", room), answer}, {strings.Repeat(" ", room) + talk, answer}, {talk + strings.Repeat(" ", room-1) + "\n", answer},
		{strings.Repeat("#", room-1) + "\n" + talk, answer}, {talk + strings.Repeat("q", room), answer + "error 18\n"}, {talk[:len(talk)-1] + strings.Repeat(" ", room) + "\n", answer}} {
		if len(c[0]) != api.MaxText {
			t.Fatalf("a text of %d bytes", len(c[0]))
		}
		runs(t, c[0], c[1])
		runs(t, c[0][1:], byLines(strings.Split(c[0][1:], "\n")...))
		for _, more := range []string{"\n", " ", "#", "x"} {
			runs(t, c[0]+more, "error 18\n")
			runs(t, more+c[0], "error 18\n")
		}
		runs(t, c[0]+c[0], "error 18\n")
	}
	runs(t, strings.Repeat("x", api.MaxText), "error 18\n") // one line that is none
	runs(t, strings.Repeat("x", 10*api.MaxText), "error 18\n")
	runs(t, strings.Repeat("cones\n", 1000000), "error 18\n")
	// Do takes a line of any length.
	does(t, "P25.1", script.New(), "cones"+strings.Repeat(" ", 10*api.MaxText), "fault 6")
}

// TestManyLines: MaxLines, and one more; the last ended or not.
func TestManyLines(t *testing.T) {
	for _, line := range []string{"", "#", " ", "cones", "files", "frob", "put a 1 1", "closure"} {
		lines := strings.Repeat(line+"\n", api.MaxLines)
		want := byLines(strings.Split(lines, "\n")...)
		runs(t, lines, want)
		if line != "" {
			runs(t, strings.TrimSuffix(lines, "\n"), want)
		}
		for _, more := range []string{"\n", " ", "#", "cones", "cones\n", "\n\n"} {
			runs(t, lines+more, "error 18\n")
		}
		runs(t, "\n"+lines, "error 18\n")
	}
	runs(t, strings.Repeat("\n", api.MaxLines-1)+"cones", "fault 6\n")
	runs(t, strings.Repeat("\n", api.MaxLines-1)+"cones\n", "fault 6\n")
	runs(t, strings.Repeat("\n", api.MaxLines)+"cones", "error 18\n")
	runs(t, strings.Repeat("\n", api.MaxText), "error 18\n")
	runs(t, strings.Repeat("\n", api.MaxText+1), "error 18\n")
}

// TestGreatTalks: texts that are nearly as long as they may be, with many files, labels and questions.
func TestGreatTalks(t *testing.T) {
	var lines []string
	for i := range api.MaxFiles {
		lines = append(lines, fmt.Sprintf("put d%d/e%d/f%d %d %d", i%7, i%13, i, i, 3*i))
	}
	for i := range 7 {
		p := fmt.Sprintf("d%d/TARGETS", i)
		lines = append(lines, said(p, fmt.Sprintf("target n{srcs=[e%d/*]}", i)), fmt.Sprintf("cut d%d/e%d/f%d", i, i, i), said(p, fmt.Sprintf("target n{srcs=[e%d/*]}", i)), fmt.Sprintf("want //d%d:n", i))
	}
	for range 12 {
		lines = append(lines, "cones", "build", "closure", "profile", "files", "impact d3/TARGETS")
	}
	text := strings.Join(lines, "\n")
	if len(lines) > api.MaxLines || len(text) > api.MaxText || strings.Contains(byLines(lines...), "fault") {
		t.Fatalf("%d lines, %d bytes: the talk is no great one", len(lines), len(text))
	}
	runs(t, text, byLines(lines...))
}

// TestRunsByLines holds drawn texts against New and Do, line by line.
func TestRunsByLines(t *testing.T) {
	r := rand.New(rand.NewSource(2521))
	for range 100 {
		lines := strings.Split(strings.Join(anyTalk(r, faulty(), 40), "\n"), "\n")
		want := byLines(lines...)
		runs(t, strings.Join(lines, "\n"), want)
		runs(t, strings.Join(lines, "\n")+"\n", want)
	}
	for range 3000 {
		b := make([]byte, r.Intn(60))
		for i := range b {
			b[i] = pick(r, []byte("\n\n  #01-./aputcfilesTARGETS\t\xff\x00"))
		}
		runs(t, string(b), byLines(strings.Split(string(b), "\n")...))
	}
}
