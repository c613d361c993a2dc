package script_test

import (
	"math/rand"
	"slices"
	"strings"
	"sync"
	"testing"

	"copse/script"
)

// P25.3

// answersTo are the answers of a session to lines, those of extra lines ahead of each not told.
func answersTo(s *script.Session, lines []string, ahead func(i int) []string) [][]string {
	var l [][]string
	for i, line := range lines {
		for _, more := range ahead(i) {
			s.Do(more)
		}
		l = append(l, s.Do(line))
	}
	return l
}

func nothing(int) []string { return nil }

func sameAnswers(a, b [][]string) bool { return slices.EqualFunc(a, b, slices.Equal) }

// holdsWith holds the talk's answers, whatever is put between its lines.
func holdsWith(t *testing.T, lines []string, aheads ...func(i int) []string) {
	t.Helper()
	lines = append(slices.Clone(lines), questions()...)
	want := answersTo(script.New(), lines, nothing)
	for n, ahead := range aheads {
		got := answersTo(script.New(), lines, ahead)
		if !sameAnswers(got, want) {
			i := 0
			for slices.Equal(got[i], want[i]) {
				i++
			}
			t.Fatalf("P25.3: behind %q, with lines put between (%d): %q: %q, want %q", lines[:i], n, lines[i], got[i], want[i])
		}
	}
}

// course is a talk in which cones, faults and answers come and go.
func course() []string {
	return []string{
		"put a/x.c 1 10", said("a/TARGETS", "target a { srcs = [x.c, s/*.c] deps = [//b:b] }"), "want //a:a", "cones", said("b/TARGETS", "target b { srcs = [y.c] see = [//a] }"), "cones",
		"put b/y.c 3 30", "cones", "budget 2", "cones", "put a/s/1.c 1 1", "closure", "cut a/s/1.c", "closure", "put a/x.c 9 9", "build", "want //a:a", "drop //b:b", "want //b:b", "build",
		said("b/TARGETS", "target"), "cones", "closure", said("b/TARGETS", "target b { srcs = [*.c] }"), "cones", "build", said("b/TARGETS", "target b { srcs = [*.c] see = [public] }"), "cones", "profile",
		"cut b/y.c", "build", "put b/y.c 3 30", "build", "put b/z.c 4611686018427387904 1", "put b/z.c 1 4611686018427387904", "cones", "put b/w.c 1 4611686018427387904", "cones", "cut b/w.c", "cones",
		said("c/TARGETS", "target c { deps = [//a:a, //b:b] }"), "want //c:c", "cones", "closure", "budget 1", "cones", "profile", "budget 0", "cones", "budget 3", "cones", "impact b/y.c", "drop //a:a", "drop //b:b", "cones",
		said("a/TARGETS", "target a { srcs = [x.c, s/*.c] deps = [//b:b] see = [//c] }"), "cones", "closure", "cut a/TARGETS", "cones", "put a/x.c/y 1 1", "cut a/x.c", "put a/x.c/y 1 1", "files", "drop //c:c", "cones", "closure",
	}
}

// TestQuestionsChangeNothing: each question, and each line that says nothing or is refused, ahead of each line, of all lines, and many times.
func TestQuestionsChangeNothing(t *testing.T) {
	lines := course()
	all := slices.Concat(questions(), quiet(), broken())
	var aheads []func(int) []string
	for _, more := range all {
		aheads = append(aheads, func(int) []string { return []string{more} }, func(i int) []string { return slices.Repeat([]string{more}, i%5) })
	}
	aheads = append(aheads, func(int) []string { return all }, func(int) []string { return slices.Repeat(questions(), 3) })
	for at := range lines {
		aheads = append(aheads, func(i int) []string {
			if i == at {
				return all
			}
			return nil
		})
	}
	holdsWith(t, lines, aheads...)
}

// TestQuestionsLeftOut: the questions of a talk left out, all later answers are the same.
func TestQuestionsLeftOut(t *testing.T) {
	lines := append(course(), questions()...)
	isQuestion := func(line string) bool {
		word, _, _ := strings.Cut(line, " ")
		return slices.Contains([]string{"cones", "build", "closure", "profile", "impact", "files"}, word)
	}
	want := answersTo(script.New(), lines, nothing)
	for from := range lines {
		s := script.New()
		for i, line := range lines {
			if i < from && isQuestion(line) {
				continue
			}
			if got := s.Do(line); !slices.Equal(got, want[i]) {
				t.Fatalf("P25.3: %q, without the %d questions ahead: %q, want %q", line, from, got, want[i])
			}
		}
	}
}

func TestAnyQuestionsBetween(t *testing.T) {
	r := rand.New(rand.NewSource(2531))
	for range 60 {
		lines := anyTalk(r, faulty(), 40)
		between := make([][]string, len(lines)+len(questions()))
		for i := range between {
			for range r.Intn(4) {
				between[i] = append(between[i], pick(r, []string{anyQuestion(r), anyQuestion(r), pick(r, quiet()), pick(r, broken())}))
			}
		}
		holdsWith(t, lines, func(i int) []string { return between[i] }, func(i int) []string { return questions()[i%len(questions()):][:1] })
	}
}

// TestQuestionsAgain: a question asked again is answered the same.
func TestQuestionsAgain(t *testing.T) {
	r := rand.New(rand.NewSource(2532))
	for range 40 {
		s := script.New()
		for _, line := range anyTalk(r, faulty(), 20) {
			s.Do(line)
			q := anyQuestion(r)
			one := s.Do(q)
			s.Do(anyQuestion(r))
			if two := s.Do(q); !slices.Equal(one, two) {
				t.Fatalf("P25.3: %q: %q, and then %q", q, one, two)
			}
		}
	}
}

// TestRefusalsChangeNothing: what a drawn talk refuses leaves all answers as they were.
func TestRefusalsChangeNothing(t *testing.T) {
	r := rand.New(rand.NewSource(2533))
	refused := 0
	for range 30 {
		s := script.New()
		was := state(s)
		for _, line := range anyTalk(r, faulty(), 40) {
			answer := s.Do(line)
			is := state(s)
			if !slices.Equal(answer, []string{"ok"}) {
				refused++
				if !slices.Equal(is, was) {
					t.Fatalf("P25.1: %q is answered %q, and all is %q, want %q", line, answer, is, was)
				}
			}
			was = is
		}
	}
	if refused < 600 {
		t.Errorf("only %d lines were no changes: the talks say too little", refused)
	}
}

// Two sessions.

func TestTwoSessions(t *testing.T) {
	r := rand.New(rand.NewSource(2534))
	for range 100 {
		one, two := anyTalk(r, faulty(), 30), anyTalk(r, faulty(), 30)
		wantOne, wantTwo := answersTo(script.New(), one, nothing), answersTo(script.New(), two, nothing)
		a, b := script.New(), script.New()
		for i, j := 0, 0; i < len(one) || j < len(two); {
			if j == len(two) || i < len(one) && r.Intn(2) == 0 {
				if got := a.Do(one[i]); !slices.Equal(got, wantOne[i]) {
					t.Fatalf("P25.1: two sessions have met: %q: %q, want %q", one[i], got, wantOne[i])
				}
				i++
				continue
			}
			if got := b.Do(two[j]); !slices.Equal(got, wantTwo[j]) {
				t.Fatalf("P25.1: two sessions have met: %q: %q, want %q", two[j], got, wantTwo[j])
			}
			j++
		}
	}
}

// TestSessionsAtOnce: many at one time, each used by one.
func TestSessionsAtOnce(t *testing.T) {
	lines := append(course(), questions()...)
	want := answersTo(script.New(), lines, nothing)
	var at sync.WaitGroup
	for n := range 16 {
		at.Go(func() {
			more := func(i int) []string { return questions()[(i+n)%len(questions()):][:1] }
			if got := answersTo(script.New(), lines, more); !sameAnswers(got, want) {
				t.Errorf("P25.3: session %d: %q, want %q", n, got, want)
			}
		})
	}
	at.Wait()
}
