package script_test

import (
	"fmt"
	"math/rand"
	"runtime"
	"slices"
	"strings"
	"testing"

	"copse/script"
)

// scribble writes an answer over, its spare room too, and lengthens it.
func scribble(answer []string) {
	whole := answer[:cap(answer)]
	for i := range whole {
		whole[i] = "mark"
	}
	_ = append(answer, "more", "more", "more")
}

// TestAnswersAreNew: each answer of a talk is written over, and no other one shows it.
func TestAnswersAreNew(t *testing.T) {
	r := rand.New(rand.NewSource(2541))
	for range 60 {
		lines := append(anyTalk(r, faulty(), 40), questions()...)
		want := answersTo(script.New(), lines, nothing)
		s := script.New()
		var kept [][]string
		for i, line := range lines {
			got := s.Do(line)
			if !slices.Equal(got, want[i]) {
				t.Fatalf("P25.1: %q: %q, want %q: an answer shares memory with an earlier one", line, got, want[i])
			}
			if i%2 == 0 {
				scribble(got)
				got = want[i]
			}
			kept = append(kept, got)
		}
		if !sameAnswers(kept, want) {
			t.Fatalf("P25.1: answers of %q are others now", lines)
		}
	}
}

// TestAnswersOfOneQuestionAreApart: asked twice, one of both answers written over.
func TestAnswersOfOneQuestionAreApart(t *testing.T) {
	s := grove(t)
	for _, q := range append(questions(), "frob", "cut q", "put a 1 1", "budget 2") {
		one, two := s.Do(q), s.Do(q)
		want := slices.Clone(two)
		scribble(one)
		if !slices.Equal(two, want) {
			t.Errorf("P25.1: two answers to %q share memory", q)
		}
		if three := s.Do(q); !slices.Equal(three, want) {
			t.Errorf("P25.1: %q: %q, want %q", q, three, want)
		}
	}
}

// TestLinesAreNotKept: of long lines just what they say is kept.
func TestLinesAreNotKept(t *testing.T) {
	heap := func() uint64 {
		runtime.GC()
		var m runtime.MemStats
		runtime.ReadMemStats(&m)
		return m.HeapAlloc
	}
	s := script.New()
	was := heap()
	room := strings.Repeat(" ", 1<<19)
	for i := range 60 { // 180 MiB together
		does(t, "P25.1", s, fmt.Sprintf("%sput q%d 1 1%s", room, i, room), "ok")
		does(t, "P25.1", s, fmt.Sprintf("%swant //q%d:n%s", room, i, room), "ok")
		does(t, "P25.1", s, fmt.Sprintf("%ssay d%d/TARGETS 61%s", room, i, room), "ok")
	}
	if is := heap(); is > was+16<<20 {
		t.Errorf("P25.1: %d bytes are kept of 180 lines", is-was)
	}
	runtime.KeepAlive(s)
}
