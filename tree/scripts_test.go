package tree_test

import (
	"bytes"
	"fmt"
	"math"
	"math/rand"
	"slices"
	"strings"
	"testing"

	"copse/api"
	"copse/tree"
)

// Scripts of all steps, each answer and all that is told held against the oracle.

// smallSteps are all steps of a small world.
func smallSteps() []step {
	var l []step
	for _, p := range []string{"a", "a/b", "c"} {
		l = append(l, mkdir(p), write(f(p, 1)), remove(p), rmdir(p))
	}
	return append(l, lengthen(1, 2), empty())
}

// TestAllShortScripts: every script of four steps of the small world.
func TestAllShortScripts(t *testing.T) {
	steps := smallSteps()
	var done []step
	var further func(left int)
	further = func(left int) {
		if left == 0 {
			w := &twin{t, grown(t, f("a/b", 2)), modelOf(f("a/b", 2))}
			for _, s := range done {
				w.does("P21.2 to P21.5", s)
			}
			w.holds("P21.2 to P21.5")
			return
		}
		for _, s := range steps {
			done = append(done, s)
			further(left - 1)
			done = done[:len(done)-1]
		}
	}
	further(4)
}

// TestAllShortStoppedScripts: every script of three steps, stopped at each, and all that crashes make of them.
func TestAllShortStoppedScripts(t *testing.T) {
	steps := smallSteps()
	for i := range len(steps) * len(steps) * len(steps) {
		script := []step{steps[i%len(steps)], steps[i/len(steps)%len(steps)], steps[i/len(steps)/len(steps)]}
		for n := 1; n <= 4; n++ {
			w := &twin{t, grown(t, f("a/b", 2)), modelOf(f("a/b", 2))}
			w.stop(n)
			for _, s := range script {
				w.does("P21.6", s)
			}
			for keep := -1; keep < 3; keep++ {
				c := w.crashed(keep)
				c.does("P21.7", script[0])
				c.does("P21.7", lengthen(3))
				c.holds("P21.7")
			}
			w.holds("P21.7")
		}
	}
}

func pick[T any](r *rand.Rand, l []T) T { return l[r.Intn(len(l))] }

// world are paths that get into each other's way.
func world() []string {
	l := []string{""}
	for _, a := range []string{"a", "a-", "b"} {
		l = append(l, a)
		for _, b := range []string{"a", "b", "TARGETS"} {
			l = append(l, a+"/"+b)
			for _, c := range []string{"a", "c.h"} {
				l = append(l, a+"/"+b+"/"+c)
			}
		}
	}
	return append(l, "TARGETS", "TARGETS/a", "a/b/c/d", "a/b/c/d/e", "a/b/c/d/e/f")
}

func anyPath(r *rand.Rand) string {
	if r.Intn(25) == 0 {
		return pick(r, noPaths())
	}
	return pick(r, world())
}

func anyFile(r *rand.Rand) api.File {
	p := anyPath(r)
	switch {
	case r.Intn(25) == 0:
		return pick(r, noFiles()).f
	case r.Intn(25) == 0:
		return api.File{Path: p, Text: "x", Blob: r.Intn(2), Size: 1}
	case r.Intn(25) == 0:
		return api.File{Path: p, Size: r.Intn(4) - 3}
	case strings.HasSuffix(p, "TARGETS"):
		return target(p, strings.Repeat("x", r.Intn(3)))
	}
	return f(p, r.Intn(4))
}

func anyBytes(r *rand.Rand) []byte {
	b := make([]byte, r.Intn(6)*r.Intn(6))
	r.Read(b)
	return b
}

func anyStep(r *rand.Rand) step {
	switch r.Intn(10) {
	case 0, 1, 2:
		return mkdir(anyPath(r))
	case 3, 4, 5:
		return write(anyFile(r))
	case 6:
		return remove(anyPath(r))
	case 7:
		return rmdir(anyPath(r))
	case 8:
		return lengthen(anyBytes(r)...)
	}
	if r.Intn(3) > 0 {
		return lengthen(anyBytes(r)...)
	}
	return empty()
}

// nearStep is one that is not refused as often: at what is there, or right beside it.
func nearStep(r *rand.Rand, m *model) step {
	now := m.told()
	switch k := r.Intn(6); {
	case k == 0 && len(now.files) > 0:
		return remove(pick(r, now.files).Path)
	case k == 1 && len(now.dirs) > 0:
		return rmdir(pick(r, now.dirs))
	case k == 2 && len(now.files) > 0:
		g := pick(r, now.files)
		if g.Text == "" && g.Size > 0 {
			g.Blob++
		}
		return write(g)
	case k == 3 && len(now.dirs) > 0:
		return mkdir(pick(r, now.dirs) + "/" + pick(r, []string{"n", "n-", "o"}))
	case k == 4 && len(now.dirs) > 0:
		return write(f(pick(r, now.dirs)+"/"+pick(r, []string{"n", "n-", "o"}), r.Intn(9)))
	}
	return anyStep(r)
}

func anySnapshot(r *rand.Rand) []api.File {
	m := modelOf()
	for range r.Intn(12) {
		g := anyFile(r)
		if fileFault(g) == api.OK {
			m.does(append(mkdirs(g.Path), write(g))...)
		}
	}
	return m.told().files
}

func (m *model) does(steps ...step) {
	for _, s := range steps {
		m.do(s)
	}
}

// mkdirs are the steps that make all directories above a path.
func mkdirs(p string) []step {
	var l []step
	for i := range len(p) {
		if p[i] == '/' {
			l = append(l, mkdir(p[:i]))
		}
	}
	return l
}

func anyNumber(r *rand.Rand) int {
	switch r.Intn(8) {
	case 0:
		return pick(r, []int{math.MinInt, math.MaxInt, math.MinInt + 1, math.MaxInt - 1, 0, -1})
	case 1:
		return int(r.Uint64())
	}
	return r.Intn(60) - 10
}

// TestDrawnScripts: long scripts with stops and crashes, whose trees go on side by side.
func TestDrawnScripts(t *testing.T) {
	answered := map[string]int{}
	for seed := range 600 {
		r := rand.New(rand.NewSource(int64(2100 + seed)))
		trees := []*twin{begin(t, anySnapshot(r)...)}
		for range 150 {
			w := pick(r, trees)
			switch k := r.Intn(30); {
			case k == 0:
				w.stop(anyNumber(r))
			case k == 1:
				c := w.crashed(anyNumber(r))
				if len(trees) < 5 {
					trees = append(trees, c)
				} else {
					trees[r.Intn(5)] = c
				}
			case k < 16:
				s := anyStep(r)
				answered[fmt.Sprint(s.kind, w.does("P21.2 to P21.6", s))]++
			default:
				s := nearStep(r, w.m)
				answered[fmt.Sprint(s.kind, w.does("P21.2 to P21.6", s))]++
			}
			if r.Intn(4) > 0 {
				w.holds("P21.2 to P21.8")
			}
		}
		for _, w := range trees {
			w.holds("P21.9")
		}
	}
	for _, kind := range []string{"Mkdir0", "Mkdir15", "Mkdir16", "Write0", "Write7", "Write8", "Write15", "Write16", "Delete0", "Delete15", "Delete16", "Rmdir0", "Rmdir15", "Rmdir16", "Append0", "Append15", "Clear0", "Clear15"} {
		if answered[kind] < 150 {
			t.Errorf("%s: only %d times: the scripts say too little (%v)", kind, answered[kind], answered)
		}
	}
}

// TestDrawnThereAndBack: P21.10's last sentence, behind drawn steps.
func TestDrawnThereAndBack(t *testing.T) {
	r := rand.New(rand.NewSource(2190))
	back := 0
	for range 400 {
		w := begin(t, anySnapshot(r)...)
		for range 40 {
			w.does("P21.10", nearStep(r, w.m))
			before := ask(w.x)
			p := anyPath(r)
			forth, home := mkdir(p), rmdir(p)
			if r.Intn(2) == 0 {
				forth, home = write(f(p, 1)), remove(p)
				if w.m.isFile(p) { // not of a new file
					continue
				}
			}
			if w.does("P21.10", forth) == api.OK {
				back++
				w.doesAll("P21.10", api.OK, home)
			}
			is(t, "P21.10", w.x, before.files, before.dirs, before.journal)
		}
	}
	if back < 2000 {
		t.Errorf("only %d were there and back: the scripts say too little", back)
	}
}

// TestDoneStepsAlone: a crash leaves what a tree has to which only the steps were done that were done.
func TestDoneStepsAlone(t *testing.T) {
	r := rand.New(rand.NewSource(2191))
	for range 600 {
		l := anySnapshot(r)
		w, done := begin(t, l...), begin(t, l...)
		n := 1 + r.Intn(40)
		w.stop(n)
		for i := range 1 + r.Intn(60) {
			s := nearStep(r, w.m)
			w.does("P21.7", s)
			if i+1 < n {
				done.does("P21.7", s)
			}
		}
		got, want := ask(w.x), ask(done.x)
		is(t, "P21.7", w.x, want.files, want.dirs, want.journal)
		is(t, "P21.7", w.x.Crash(0), want.files, want.dirs, want.journal) // the rest 0 leaves no byte
		if got.steps < want.steps {
			t.Fatalf("P21.6: %d steps, of which %d were done", got.steps, want.steps)
		}
	}
}

// P21.9

var markFile = api.File{Path: "mark", Text: "mark", Blob: -1, Size: -1}

// withRoom gives a list in front of marks, and all of it.
func withRoom[T any](items []T, mark T) (list, whole []T) {
	whole = append(slices.Clone(items), mark, mark, mark, mark)
	return whole[:len(items)], whole
}

func fill[T any](l []T, mark T) {
	for i := range l[:cap(l)] {
		l[:cap(l)][i] = mark
	}
}

// harm writes over an answer, its spare room too, and over what becomes of it when it is lengthened.
func harm[T any](l []T, mark T) {
	longer := append(append(l, mark), mark)
	fill(l, mark)
	fill(longer, mark)
}

func (a told) harm() {
	harm(a.files, markFile)
	harm(a.dirs, "mark")
	harm(a.journal, 0xaa)
}

func TestNewKeepsNothing(t *testing.T) {
	r := rand.New(rand.NewSource(2192))
	lists := [][]api.File{nil, {f("a/b", 1)}, numbered(512), numbered(513), {f("b", 1), f("a", 1)}, {f("", 1)}}
	for range 100 {
		lists = append(lists, anySnapshot(r))
	}
	for _, items := range lists {
		l, whole := withRoom(items, markFile)
		was := slices.Clone(whole)
		x, e := tree.New(l)
		if !slices.Equal(whole, was) {
			t.Fatalf("P21.9: New changed what was handed in, or the room behind it: %+v", whole)
		}
		if e != api.OK {
			continue
		}
		fill(whole, markFile)
		w := &twin{t, x, modelOf(items...)}
		w.holds("P21.9")
		copy(whole, was)
		for range 20 {
			w.does("P21.9", nearStep(r, w.m))
		}
		ask(w.x).harm()
		w.holds("P21.9")
		if !slices.Equal(whole, was) {
			t.Fatalf("P21.9: a step changed what was handed to New, or the room behind it: %+v", whole)
		}
	}
}

// TestAppendKeepsNothing: neither of what is laid at the journal's end, nor of what is stopped, though a crash may leave it later.
func TestAppendKeepsNothing(t *testing.T) {
	for size := range 40 {
		for stop := range 4 {
			w := begin(t)
			w.stop(stop)
			var lists, copies [][]byte
			for i := range 4 {
				b, whole := withRoom(bytes.Repeat([]byte{byte(i + 1)}, size), 0xee)
				lists, copies = append(lists, whole), append(copies, bytes.Clone(whole))
				w.does("P21.9", step{kind: "Append", bytes: b})
				w.does("P21.9", lengthen(7))
			}
			for i := range lists {
				if !bytes.Equal(lists[i], copies[i]) {
					t.Fatalf("P21.9: Append changed what was handed in, or the room behind it: %d, was %d", lists[i], copies[i])
				}
				fill(lists[i], 0xdd)
			}
			w.holds("P21.9")
			for keep := range size + 2 {
				w.crashed(keep).doesEither("P21.9", lengthen(8))
			}
			w.doesEither("P21.9", empty())
			w.doesEither("P21.9", lengthen(9))
			for i := range lists {
				if slices.ContainsFunc(lists[i], func(c byte) bool { return c != 0xdd }) {
					t.Fatalf("P21.9: what was handed in is written to later: %d", lists[i])
				}
			}
		}
	}
}

// TestAnswersAreNewMemory: written over and lengthened they change neither the tree nor each other, and no step changes them.
func TestAnswersAreNewMemory(t *testing.T) {
	r := rand.New(rand.NewSource(2193))
	for range 200 {
		w := begin(t, anySnapshot(r)...)
		w.stop(r.Intn(40))
		var asked, copies []told
		for range 30 {
			w.does("P21.9", nearStep(r, w.m))
			a := ask(w.x)
			fill(a.files[len(a.files):], markFile)
			fill(a.dirs[len(a.dirs):], "mark")
			fill(a.journal[len(a.journal):], 0xaa)
			asked, copies = append(asked, a), append(copies, a.copied())
			ask(w.x).harm()
			w.holds("P21.9")
		}
		for i := range asked {
			if !asked[i].is(copies[i]) || !marked(asked[i]) {
				t.Fatalf("P21.9: an answer has become %+v, was %+v", asked[i], copies[i])
			}
		}
		for i := range asked {
			asked[i].harm()
			for j := i + 1; j < len(asked); j++ {
				if !asked[j].is(copies[j]) {
					t.Fatalf("P21.9: two answers share memory: %+v, was %+v", asked[j], copies[j])
				}
			}
		}
		w.holds("P21.9")
	}
}

// marked: is the room behind an answer's lists as it was filled?
func marked(a told) bool {
	for _, g := range a.files[len(a.files):cap(a.files)] {
		if g != markFile {
			return false
		}
	}
	for _, d := range a.dirs[len(a.dirs):cap(a.dirs)] {
		if d != "mark" {
			return false
		}
	}
	for _, c := range a.journal[len(a.journal):cap(a.journal)] {
		if c != 0xaa {
			return false
		}
	}
	return true
}

// TestCrashedSharesNothing: what is done to a tree is not done to what a crash made of it, nor the other way round, nor between two crashes.
func TestCrashedSharesNothing(t *testing.T) {
	r := rand.New(rand.NewSource(2194))
	for range 300 {
		w := begin(t, anySnapshot(r)...)
		for range r.Intn(30) {
			w.does("P21.9", nearStep(r, w.m))
		}
		if r.Intn(2) == 0 {
			w.stop(1)
			w.does("P21.9", lengthen(anyBytes(r)...))
		}
		trees := []*twin{w}
		for range 4 {
			trees = append(trees, pick(r, trees).crashed(anyNumber(r)))
		}
		for range 60 {
			x := pick(r, trees)
			x.does("P21.9", nearStep(r, x.m))
			ask(x.x).harm()
			for _, y := range trees {
				y.holds("P21.9")
			}
		}
	}
}

// TestJournalsGrowApart: journals with spare room, from which a tree and what crashed could both grow.
func TestJournalsGrowApart(t *testing.T) {
	for size := range 70 {
		w := begin(t)
		for i := range size {
			w.does("P21.9", lengthen(byte(i)))
		}
		c, d := w.crashed(0), w.crashed(0)
		for i := range 3 {
			w.does("P21.9", lengthen(100+byte(i)))
			c.does("P21.9", lengthen(120+byte(i)))
			d.does("P21.9", lengthen(140+byte(i)))
		}
		for _, x := range []*twin{w, c, d} {
			x.holds("P21.9")
			x.does("P21.9", empty())
			x.does("P21.9", lengthen(1, 2, 3))
		}
		w.stop(1)
		w.does("P21.9", lengthen(50, 51, 52, 53))
		e, g := w.crashed(2), w.crashed(3) // both have a beginning of one Append
		e.doesAll("P21.9", api.OK, lengthen(60, 61))
		g.doesAll("P21.9", api.OK, lengthen(70, 71))
		for _, x := range []*twin{w, c, d, e, g, w.crashed(4)} {
			x.holds("P21.9")
		}
	}
}

// TestSameStepsSameAnswers: what is told hangs on what was done, and of what is there not on the way it came.
func TestSameStepsSameAnswers(t *testing.T) {
	for seed := range 40 {
		var first []told
		for again := range 3 {
			r := rand.New(rand.NewSource(int64(2300 + seed)))
			w := begin(t, anySnapshot(r)...)
			w.stop(r.Intn(60))
			for i := range 50 {
				w.does("P21.9", nearStep(r, w.m))
				if a := ask(w.x); again == 0 {
					first = append(first, a)
				} else if !a.is(first[i]) {
					t.Fatalf("P21.9: step %d: %+v, at first %+v", i, a, first[i])
				}
			}
		}
	}
	r := rand.New(rand.NewSource(2195))
	for range 100 {
		l := anySnapshot(r)
		whole, built := grown(t, l...), begin(t)
		r.Shuffle(len(l), func(i, j int) { l[i], l[j] = l[j], l[i] })
		for _, g := range l {
			for _, s := range append(mkdirs(g.Path), write(g)) {
				built.does("P21.2, P21.3", s)
			}
		}
		want := ask(whole)
		is(t, "P21.8", built.x, want.files, want.dirs, want.journal)
	}
}
