package script_test

import (
	"fmt"
	"math/rand"
	"slices"
	"strconv"
	"strings"
	"testing"

	"copse/api"
	"copse/script"
)

// Drawn talks.

func pick[T any](r *rand.Rand, l []T) T { return l[r.Intn(len(l))] }

func picks[T comparable](r *rand.Rand, n int, l []T) []T {
	var some []T
	for range min(n, len(l)) {
		if x := pick(r, l); !slices.Contains(some, x) {
			some = append(some, x)
		}
	}
	return some
}

// faulty are texts that are no manifests, each with the place of its fault, and some without a target.
func faulty() book {
	return book{
		"": {at: -1}, "# target": {at: -1}, strings.Repeat(" ", 4096): {at: -1},
		"target": {at: 6}, "targets": {at: 0}, ";": {at: 0}, "target n{": {at: 9}, "target n;": {at: 8}, "target n{} target n{}": {at: 18},
		"target n{srcs=[TARGETS]}": {at: 15}, "target n{srcs=[x,x]}": {at: 17}, "target n{}\nq": {at: 11}, strings.Repeat(" ", 4097): {at: 4096},
	}
}

func packages() []string { return []string{"", "a", "a/b", "A", "b", "b/c/d", "b/c/e", "c.x"} }

// pool are the labels of which talks speak; a target mostly needs later ones alone.
func pool() []api.Label {
	var l []api.Label
	for _, name := range []string{"n", "m"} {
		for _, pkg := range packages() {
			l = append(l, api.Label{Pkg: pkg, Name: name})
		}
	}
	return l
}

// places are the paths of which talks speak, but the manifests'.
func places() []string {
	var l []string
	for _, dir := range append(packages(), "s", "a/s", "b/c", "b/s", "d") {
		for _, name := range []string{"x.c", "y.c", "z.h"} {
			l = append(l, joined(dir, name))
		}
	}
	return l
}

func anySize(r *rand.Rand) int {
	if r.Intn(6) == 0 {
		return pick(r, []int{1 << 62, 1<<62 - 1, 1 << 61})
	}
	return r.Intn(100)
}

// anyTargets are those of a package, mostly without a fault.
func anyTargets(r *rand.Rand, pkg string) []api.Target {
	var l []api.Target
	all := pool()
	for at, a := range all {
		if a.Pkg != pkg || r.Intn(30) == 0 {
			continue
		}
		x := api.Target{Name: a.Name, See: []string{"public"}}
		x.Srcs = picks(r, r.Intn(4), []string{"x.c", "x.c", "*.c", "*", "s/*", "s/*.c", "b/*.c", "c/*", "none/*"})
		if r.Intn(40) == 0 {
			x.Srcs = append(x.Srcs, pick(r, []string{"y.c", "s/z.h", "no"}))
		}
		x.Deps = picks(r, r.Intn(5)/2, all[at+1:])
		if b := pick(r, all); r.Intn(40) == 0 && !slices.Contains(x.Deps, b) {
			x.Deps = append(x.Deps, b)
		}
		if r.Intn(15) == 0 {
			x.See = picks(r, 2, []string{"//a", "//a/...", "//", "//b/...", "//..."})
		}
		l = append(l, x)
	}
	return l
}

// write gives the targets' text, and keeps in the book what it says.
func (b book) write(l []api.Target) string {
	text := ""
	for _, x := range l {
		var deps []string
		for _, d := range x.Deps {
			deps = append(deps, shown(d))
		}
		text += fmt.Sprintf("target %s{srcs=[%s]deps=[%s]see=[%s]}", x.Name, strings.Join(x.Srcs, ","), strings.Join(deps, ","), strings.Join(x.See, ","))
	}
	b[text] = saying{l, -1}
	return text
}

func anyManifest(r *rand.Rand, b book, pkg string) string {
	if r.Intn(40) == 0 {
		return pick(r, []string{"", "# target", "target", ";", "target n{", "target n{srcs=[TARGETS]}", "target n{} target n{}"})
	}
	return b.write(anyTargets(r, pkg))
}

func spelt(text string) string { return or(fmt.Sprintf("%x", text), "-") }

func said(p, text string) string { return "say " + p + " " + spelt(text) }

// begin are lines that lay most of the places, all manifests, and ask for some labels.
func begin(r *rand.Rand, b book) []string {
	var lines []string
	for _, p := range places() {
		if strings.HasSuffix(p, "x.c") || r.Intn(3) == 0 {
			lines = append(lines, fmt.Sprintf("put %s %d %d", p, r.Intn(3), anySize(r)))
		}
	}
	for _, pkg := range packages() {
		lines = append(lines, said(joined(pkg, "TARGETS"), anyManifest(r, b, pkg)))
	}
	for _, a := range picks(r, r.Intn(3), pool()) {
		lines = append(lines, "want "+shown(a))
	}
	lines = append(lines, fmt.Sprintf("budget %d", 1+r.Intn(5)))
	r.Shuffle(len(lines), func(i, j int) { lines[i], lines[j] = lines[j], lines[i] })
	return lines
}

func anyPath(r *rand.Rand) string {
	if r.Intn(8) == 0 {
		return pick(r, []string{".", "..", "a", "b/c", "a/x.c/y", "/", "a//b", "q", "TARGETS", "a/TARGETS", "b/TARGETS", "x.c/TARGETS", "a/TARGETS/x", "-", "T\xff", "a\tb"})
	}
	return pick(r, places())
}

// anyChange is a line that changes something, or is refused.
func anyChange(r *rand.Rand, b book) string {
	pkg := pick(r, packages())
	manifest := joined(pkg, "TARGETS")
	switch r.Intn(10) {
	case 0, 1, 2:
		return fmt.Sprintf("put %s %d %d", anyPath(r), r.Intn(3), anySize(r))
	case 3, 4:
		return said(manifest, anyManifest(r, b, pkg))
	case 5:
		return "cut " + pick(r, []string{anyPath(r), anyPath(r), manifest})
	case 6:
		return "want " + shown(pick(r, pool()))
	case 7, 8:
		return "drop " + shown(pick(r, pool()))
	default:
		return "budget " + pick(r, []string{"0", "1", "1", "2", "2", "3", "4", "64", "-1", "9223372036854775807"})
	}
}

func anyQuestion(r *rand.Rand) string {
	if r.Intn(3) > 0 {
		return pick(r, questions())
	}
	line := "impact"
	for range r.Intn(4) {
		line += " " + anyPath(r)
	}
	return line
}

// questions are one of each kind, and some more of impact.
func questions() []string {
	return []string{"cones", "build", "closure", "profile", "files", "impact", "impact a/x.c b/x.c x.c", "impact TARGETS a/TARGETS b/TARGETS b/c/d/TARGETS", "impact . q"}
}

// quiet are lines that say nothing.
func quiet() []string {
	return []string{"", " ", "     ", "#", "# put a 1 1", "   #cut x.c", "#\t", "#\xff\x00\r"}
}

// broken are lines that are refused as none.
func broken() []string {
	return []string{"frob", "put", "put a", "put a 1 1 1", "cut", "want", "want n", "drop //", "budget", "budget x", "cones 1", "build .", "closure a", "profile -", "files #", "impact a//b", "\t", "cones\n", "\n"}
}

// bent is a line with something put in, taken out or written over; of texts it never makes others.
func bent(r *rand.Rand, line string) string {
	if strings.HasPrefix(line, "say") {
		line = pick(r, []string{strings.ToUpper(line), line + "0", "say " + line, strings.Replace(line, " ", "  ", 1), line + " -", " " + line + " "})
		return line
	}
	at := r.Intn(len(line) + 1)
	switch r.Intn(4) {
	case 0:
		return line[:at] + pick(r, []string{" ", "  ", "\t", "0", "-", "x", "/", ".", "#", "\n", "\x00", ":", "\xff"}) + line[at:]
	case 1:
		return line[:at] + line[min(at+1, len(line)):]
	case 2:
		return line[:at] + pick(r, []string{" ", "1", "a", "A", "\r"}) + line[min(at+1, len(line)):]
	default:
		words := strings.Split(line, " ")
		i := r.Intn(len(words))
		if r.Intn(2) == 0 {
			return strings.Join(slices.Delete(words, i, i+1), " ")
		}
		return strings.Join(slices.Insert(words, i, words[i]), "   ")
	}
}

func anyLine(r *rand.Rand, b book) string {
	line := pick(r, []string{anyChange(r, b), anyQuestion(r)})
	switch r.Intn(12) {
	case 0:
		return bent(r, line)
	case 1:
		return pick(r, append(quiet(), broken()...))
	}
	return line
}

func anyTalk(r *rand.Rand, b book, n int) []string {
	lines := begin(r, b)
	for range n {
		lines = append(lines, anyLine(r, b))
	}
	return lines
}

// kindOf is what an answer says, without names.
func kindOf(answer []string) string {
	if len(answer) == 0 {
		return "none"
	}
	first, rest, _ := strings.Cut(answer[0], " ")
	switch {
	case first == "fault" || first == "error":
		n, _, _ := strings.Cut(rest, " ")
		return first + " " + n
	case strings.HasPrefix(first, "//"):
		return "build"
	case first == "=":
		return "text"
	}
	return first + " " + strconv.FormatBool(rest != "")
}

// TestAnyTalks holds Do against the oracle, line by line.
func TestAnyTalks(t *testing.T) {
	r := rand.New(rand.NewSource(2501))
	kinds := map[string]int{}
	for range 400 {
		b := faulty()
		s, m := script.New(), newModel(b)
		lines := anyTalk(r, b, 60)
		for i, line := range append(lines, questions()...) {
			got, want := s.Do(line), m.do(line)
			if !slices.Equal(got, want) {
				t.Fatalf("P25.1: behind %q\n%q: %q, want %q", lines[:min(i, len(lines))], line, got, want)
			}
			kinds[kindOf(want)]++
		}
	}
	for kind, least := range map[string]int{
		"ok false": 5000, "none": 300, "text": 1000, "build": 500, "closure true": 500, "closure false": 20, "cones true": 200, "impact true": 500, "impact false": 500,
		"error 8": 100, "error 9": 20, "error 18": 1000, "error 19": 100, "error 20": 500,
		"fault 1": 100, "fault 2": 500, "fault 3": 30, "fault 4": 100, "fault 5": 30, "fault 6": 100,
	} {
		if kinds[kind] < least {
			t.Errorf("only %d answers of the kind %q, want %d: the talks say too little", kinds[kind], kind, least)
		}
	}
}

// TestAnyRuns holds Run against the oracle: the talk as a text, its last line ended or not.
func TestAnyRuns(t *testing.T) {
	r := rand.New(rand.NewSource(2502))
	for i := range 150 {
		b := faulty()
		lines := anyTalk(r, b, 60)
		text := strings.Join(lines, "\n")
		m, want := newModel(b), ""
		for _, line := range strings.Split(text, "\n") { // some lines hold a byte 10: in a text they are two
			for _, a := range m.do(line) {
				want += a + "\n"
			}
		}
		if i%2 == 0 {
			text += "\n"
		}
		if len(text) > 65536 {
			t.Fatalf("a text of %d bytes: the talks are too long", len(text))
		}
		if got := script.Run(text); got != want {
			t.Fatalf("P25.2: Run(%q):\n%q, want\n%q", text, got, want)
		}
	}
}
