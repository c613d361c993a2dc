package incr_test

import (
	"bytes"
	"fmt"
	"math"
	"math/rand"
	"slices"
	"strings"
	"testing"

	"copse/api"
	"copse/cache"
	"copse/compile"
	"copse/delta"
	"copse/incr"
	"copse/snap"
)

// P20.4

// full has a manifest of all kinds of lists.
func full() []api.File {
	return files("TARGETS:target a { srcs = [x.c, d/*.h] deps = [:b, //q:c] see = [public, //q/...] } # end\ntarget b { }", "x.c", "q/TARGETS:target c { see = [//] srcs = [*] }", "q/r")
}

func savedOf(t *testing.T, l []api.File, labels string) []byte {
	t.Helper()
	w := begin(t, l, labs(labels), 3)
	w.look("P20.3")
	return w.c.Save()
}

// caches are bytes that cache.Load takes.
func caches(t *testing.T) [][]byte {
	t.Helper()
	other := cache.New()
	other.Put("z/TARGETS", "target")
	other.Put("TARGETS", "target a{}")
	other.Put("a/TARGETS", "target x { srcs = [f] }")
	many := cache.New()
	for i := range 512 {
		many.Put("n/TARGETS", fmt.Sprintf("#%d", i))
	}
	return [][]byte{cache.New().Save(), other.Save(), many.Save(), savedOf(t, example(), "a:x"), savedOf(t, full(), ":a"), savedOf(t, grove(), ":all"), savedOf(t, nil, "q:q")}
}

// world is files and labels that a compiler has.
type world struct {
	l      []api.File
	labels string
}

func worlds() []world {
	return []world{{example(), "a:x"}, {example(), "b:y"}, {full(), ":a"}, {grove(), ":all"}, {grove(), "a/p:n g:n"}, {nil, ""}}
}

// TestSave: bytes that are a cache's, whatever was done before.
func TestSave(t *testing.T) {
	for _, c := range worlds() {
		w := begin(t, c.l, labs(c.labels), 2)
		w.has("P20.4") // also where nothing was asked
		w.look("P20.4")
		for _, d := range worlds() {
			w.turn(d.l)
			w.has("P20.4")
			w.look("P20.4")
		}
	}
}

func TestLoad(t *testing.T) {
	for _, c := range worlds() {
		for _, b := range caches(t) {
			for _, asked := range []bool{false, true} {
				w := begin(t, c.l, labs(c.labels), 2)
				if asked {
					w.look("P20.3")
				}
				if !w.load(b) || !w.load(b) || !w.load(w.c.Save()) {
					t.Fatalf("P20.4: Load(%q): false", b)
				}
				w.look("P20.4")
				w.turn(with(c.l, "n/1"))
				w.look("P20.4")
				if w.load(b[:len(b)-1]) || w.load(append(bytes.Clone(b), 0)) || w.load(nil) {
					t.Fatalf("P20.4: Load of other bytes: true")
				}
				w.look("P20.4")
				w.load(b)
				w.turn(c.l)
				w.look("P20.4")
			}
		}
	}
}

// TestLoadOfBeginnings: each shorter beginning, and each byte more.
func TestLoadOfBeginnings(t *testing.T) {
	for _, asked := range []bool{false, true} {
		w := begin(t, full(), labs(":a"), 2)
		b := savedOf(t, full(), ":a")
		if asked {
			w.look("P20.3")
		}
		for n := range len(b) {
			if w.load(b[:n]) {
				t.Fatalf("P20.4: Load of %d bytes of %d: true", n, len(b))
			}
			if asked && n%10 == 0 {
				w.look("P20.4")
			}
		}
		for more := range 256 {
			if w.load(append(bytes.Clone(b), byte(more))) {
				t.Fatalf("P20.4: Load with a byte %d more: true", more)
			}
		}
		w.look("P20.4")
		if !w.load(b) {
			t.Fatal("P20.4: Load of the whole: false")
		}
		w.look("P20.4")
	}
}

// TestLoadOfTurnedBytes: each byte turned; a comment's may be another's, and are taken then.
func TestLoadOfTurnedBytes(t *testing.T) {
	taken := 0
	w := begin(t, full(), labs(":a"), 2)
	w.look("P20.3")
	b := w.c.Save()
	for i := range b {
		for _, mask := range []byte{1, 2, 0x20, 0x80, 0xff} {
			turned := bytes.Clone(b)
			turned[i] ^= mask
			if w.load(turned) {
				taken++
				w.look("P20.4")
				w.load(b)
			}
		}
		if i%8 == 0 {
			w.look("P20.4")
		}
	}
	w.look("P20.4")
	if taken == 0 || taken > len(b) {
		t.Errorf("%d of %d were taken: the bytes say too little", taken, 5*len(b))
	}
}

// TestManyTexts: more manifests than a cache keeps.
func TestManyTexts(t *testing.T) {
	w := begin(t, grove(), labs(":all"), 6)
	for i := range 700 {
		next := with(grove(), fmt.Sprintf("g/TARGETS:target n { srcs = [h/i/j] see = [public] } # %d", i))
		if e := w.c.Apply(delta.Diff(w.files, next)); e != api.OK {
			t.Fatalf("P20.2: Apply: %d", e)
		}
		w.files = next
		w.c.Result()
		if i%100 == 50 {
			w.look("P20.4")
		}
	}
	w.look("P20.4")
	w.turn(grove())
	w.look("P20.4")
}

// P20.5

// state is all that a compiler tells.
type state struct {
	cones  []string
	fault  api.Fault
	files  []api.File
	labels []api.Label
	saved  []byte
}

func stateOf(c *incr.Compiler) state {
	k, f := c.Result()
	return state{k, f, c.Files(), c.Labels(), c.Save()}
}

func (s state) is(u state) bool {
	return slices.Equal(s.cones, u.cones) && sameFault(s.fault, u.fault) && slices.Equal(s.files, u.files) && slices.Equal(s.labels, u.labels) && bytes.Equal(s.saved, u.saved)
}

// TestThereAndBack: a delta and its inverse, a label added and dropped, a budget and the one before.
func TestThereAndBack(t *testing.T) {
	var all [][]api.File
	for _, c := range worlds() {
		all = append(all, c.l)
	}
	all = append(all, with(grove(), "s/x.c"), with(grove(), "g/TARGETS:target"), without(grove(), "r"), with(grove(), "a/z/4=h", "a/z/5=h"))
	for _, c := range worlds() {
		for _, l := range all {
			w := begin(t, c.l, labs(c.labels), 2)
			was := stateOf(w.c)
			d := delta.Diff(c.l, l)
			back := func(what string) {
				t.Helper()
				if is := stateOf(w.c); !is.is(was) {
					t.Fatalf("P20.5: behind %s: %+v, want %+v", what, is, was)
				}
			}
			if e := w.c.Apply(d); e != api.OK {
				t.Fatalf("P20.2: Apply: %d", e)
			}
			if e := w.c.Apply(delta.Invert(d)); e != api.OK {
				t.Fatalf("P20.5: Apply of the inverse: %d", e)
			}
			back("a delta and its inverse")
			for _, a := range labs("q:q :a a/q:n a:y") {
				if e := w.c.Add(a); e == api.OK {
					w.c.Drop(a)
				}
				back("Add and Drop")
			}
			w.c.Budget(0)
			w.c.Budget(2)
			back("another budget")
			w.turn(l) // and asked between
			w.look("P20.3")
			w.turn(c.l)
			w.look("P20.5")
			w.add(lab("q:q"))
			w.look("P20.3")
			w.drop(lab("q:q"))
			w.look("P20.5")
		}
	}
}

// Drawn scripts.

func pick[T any](r *rand.Rand, l []T) T { return l[r.Intn(len(l))] }

func picks[T comparable](r *rand.Rand, n int, l []T) []T {
	var some []T
	for range n {
		if x := pick(r, l); !slices.Contains(some, x) {
			some = append(some, x)
		}
	}
	return some
}

func packs() []string { return []string{"", "a", "a/b", "a/b/c", "b", "b/d", "c/x", "c/y", "c.x"} }

// pool are the labels of which scripts speak; a target mostly needs later ones alone.
func pool() []api.Label {
	var l []api.Label
	for _, name := range []string{"n", "m"} {
		for _, pkg := range packs() {
			l = append(l, api.Label{Pkg: pkg, Name: name})
		}
	}
	return l
}

func joined(pkg, p string) string {
	if pkg == "" {
		return p
	}
	return pkg + "/" + p
}

// anyManifest is mostly one without a fault.
func anyManifest(r *rand.Rand, pkg string) string {
	if r.Intn(25) == 0 {
		return pick(r, []string{"", "target", ";", "target n { srcs = [TARGETS] }", "# nothing", "target n { } target n { }"})
	}
	text, all := "", pool()
	for at, a := range all {
		if a.Pkg != pkg || r.Intn(15) == 0 {
			continue
		}
		srcs := picks(r, r.Intn(4), []string{"x.c", "x.c", "*.c", "*", "s/*", "s/*.h", "e/*", "b/*.c", "d/*", "none/*"})
		if r.Intn(15) == 0 {
			srcs = append(srcs, pick(r, []string{"y.c", "s/z.h"}))
		}
		var deps []string
		for _, b := range picks(r, r.Intn(3), all[min(at+1, len(all)-1):]) {
			deps = append(deps, "//"+b.Pkg+":"+b.Name)
		}
		if b := pick(r, all); r.Intn(40) == 0 && !slices.Contains(deps, "//"+b.Pkg+":"+b.Name) {
			deps = append(deps, "//"+b.Pkg+":"+b.Name)
		}
		see := "public"
		if r.Intn(5) == 0 {
			see = pick(r, []string{"", "//a", "//a/...", "//", "//c/..."})
		}
		text += fmt.Sprintf("target %s { srcs = [%s] deps = [%s] see = [%s] }\n", a.Name, strings.Join(srcs, ", "), strings.Join(deps, ", "), see)
	}
	return text
}

func anySize(r *rand.Rand) int {
	if r.Intn(4) == 0 {
		return pick(r, []int{half, half - 1, half / 2})
	}
	return r.Intn(100)
}

// places are the paths of which scripts speak, but the manifests'.
func places() []string {
	var l []string
	for _, dir := range append(packs(), "s", "e", "a/s", "a/e", "b/s", "c", "c/y/s") {
		for _, name := range []string{"x.c", "y.c", "z.h"} {
			l = append(l, joined(dir, name))
		}
	}
	return l
}

func anySnapshot(r *rand.Rand) []api.File {
	l := []api.File{}
	for _, p := range places() {
		if strings.HasSuffix(p, "x.c") || r.Intn(3) == 0 {
			l = append(l, api.File{Path: p, Size: r.Intn(100)})
		}
	}
	for _, pkg := range packs() {
		if text := anyManifest(r, pkg); r.Intn(20) > 0 {
			l = append(l, api.File{Path: joined(pkg, "TARGETS"), Text: text, Size: len(text)})
		}
	}
	slices.SortFunc(l, byFiles)
	return l
}

// changed is a snapshot with one file changed, come or gone; sometimes it is no snapshot any more.
func changed(r *rand.Rand, l []api.File) []api.File {
	f := api.File{Path: pick(r, places()), Blob: r.Intn(5), Size: anySize(r)}
	switch r.Intn(10) {
	case 0, 1, 2:
		pkg := pick(r, packs())
		text := anyManifest(r, pkg)
		f = api.File{Path: joined(pkg, "TARGETS"), Text: text, Size: len(text)}
	case 3, 4, 5:
		if len(l) > 0 {
			return without(l, pick(r, l).Path)
		}
	case 6:
		if len(l) > 0 { // a text that says the same, or another blob
			f = pick(r, l)
			if strings.HasSuffix(f.Path, "TARGETS") {
				f.Text += " "
				f.Size++
			} else {
				f.Blob++
			}
		}
	case 7:
		if r.Intn(4) == 0 {
			f = pick(r, []api.File{{Path: "a"}, {Path: "x.c/y"}, {Path: "b/d"}, {Path: "b/x.c", Text: "x"}, {Path: "q", Size: -1}, {Path: "TARGETS", Text: "x"}})
		}
	}
	l = append(without(l, f.Path), f)
	slices.SortFunc(l, byFiles)
	return l
}

// parts are the changes between two lists, of which the second may be no snapshot.
func parts(a, b []api.File) []api.Change {
	var d []api.Change
	all := slices.Concat(a, b)
	slices.SortFunc(all, byFiles)
	for _, f := range slices.CompactFunc(all, func(f, g api.File) bool { return f.Path == g.Path }) {
		c := api.Change{Path: f.Path}
		c.Old, c.Had = snap.Find(a, f.Path)
		c.New, c.Has = snap.Find(b, f.Path)
		if c.Old != c.New {
			d = append(d, c)
		}
	}
	return d
}

// script goes on with compilers that are asked at each step, now and then, and hardly ever; all are told the same.
type script struct {
	t       *testing.T
	r       *rand.Rand
	twins   []*twin
	last    []api.Change // the last delta that was taken
	good    []api.File   // the last files that had cones
	bank    [][]byte     // what was saved, by these and by others
	answers map[api.Errno]int
}

func (s *script) files() []api.File { return s.twins[0].files }

func (s *script) all(do func(w *twin)) {
	for _, w := range s.twins {
		do(w)
	}
}

func (s *script) apply(d []api.Change) {
	var e api.Errno
	s.all(func(w *twin) { e = w.apply(d) })
	if e == api.OK && len(d) > 0 {
		s.last = d
	}
	if e != api.OK {
		s.answers[e]++
	}
}

func (s *script) step() {
	s.t.Helper()
	r := s.r
	switch n := r.Intn(100); {
	case n < 40:
		s.apply(parts(s.files(), changed(r, s.files())))
	case n < 48:
		l := s.files()
		for range 2 + r.Intn(8) {
			l = changed(r, l)
		}
		s.apply(parts(s.files(), l))
	case n < 53:
		s.apply(delta.Invert(s.last))
	case n < 56:
		s.apply(s.last)
	case n < 58:
		s.apply(parts(anySnapshot(r), s.files()))
	case n < 72:
		a := pick(r, pool())
		if r.Intn(20) == 0 {
			a = pick(r, noLabels())
		}
		s.all(func(w *twin) { w.add(a) })
	case n < 82:
		a := pick(r, pool())
		if l := s.twins[0].labels; len(l) > 0 && r.Intn(5) > 0 {
			a = pick(r, l)
		}
		s.all(func(w *twin) { w.drop(a) })
	case n < 90:
		b := pick(r, []int{1, 1, 2, 2, 3, 4, 9, math.MaxInt, 0, -1})
		s.all(func(w *twin) { w.spend(b) })
	default:
		s.keep()
	}
}

// keep saves and loads, mostly what was saved, whosever it was; sometimes its bytes have become others.
func (s *script) keep() {
	r := s.r
	s.bank = append(s.bank, pick(r, s.twins).c.Save())
	s.all(func(w *twin) {
		b := bytes.Clone(pick(r, s.bank))
		switch r.Intn(6) {
		case 0:
			b = b[:r.Intn(len(b)+1)]
		case 1:
			b[r.Intn(len(b))] ^= 1 << r.Intn(8)
		case 2:
			b = append(b, byte(r.Intn(256)))
		}
		w.load(b)
	})
}

// mend leads back to files that had cones, to a budget that may be and to labels without a fault: else most of a script were faults.
func (s *script) mend() {
	if s.twins[0].budget < 1 {
		b := 1 + s.r.Intn(5)
		s.all(func(w *twin) { w.spend(b) })
	}
	for range 2 {
		a := pick(s.r, pool())
		s.all(func(w *twin) { w.add(a) })
	}
	s.apply(parts(s.files(), s.good))
	for _, a := range slices.Clone(s.twins[0].labels) {
		if _, f := compile.Run(s.files(), []api.Label{a}, 1); f.Code != api.OK {
			s.all(func(w *twin) { w.drop(a) })
		}
	}
}

func (s *script) run(steps int) {
	s.t.Helper()
	for i := range steps {
		s.step()
		f := s.twins[0].look("P20.3")
		s.answers[f.Code]++
		if i%5 == 4 {
			s.twins[1].look("P20.3")
		}
		if i%37 == 36 {
			s.twins[2].look("P20.3")
			w := begin(s.t, s.files(), s.twins[0].labels, s.twins[0].budget)
			w.look("P20.5")
			s.bank = append(s.bank, w.c.Save())
		}
		if f.Code == api.OK {
			s.good = s.files()
		} else if s.r.Intn(2) == 0 {
			s.mend()
		}
	}
	s.all(func(w *twin) { w.look("P20.5") })
}

func TestScripts(t *testing.T) {
	answers := map[api.Errno]int{}
	for seed := range 30 {
		r := rand.New(rand.NewSource(int64(2000 + seed)))
		l, labels := anySnapshot(r), picks(r, 1+r.Intn(3), pool())
		s := &script{t: t, r: r, answers: answers, good: l}
		for range 3 {
			s.twins = append(s.twins, begin(t, l, labels, 3))
		}
		s.run(200)
	}
	for _, e := range []api.Errno{api.OK, api.ErrParse, api.ErrMissing, api.ErrCycle, api.ErrSee, api.ErrOver, api.ErrArg, api.ErrDelta} {
		if answers[e] < 60 {
			t.Errorf("only %d answers of the code %d: the scripts say too little", answers[e], e)
		}
	}
	t.Logf("answers by code: %v", answers)
}

// TestUnlikeWays: compilers that came to the same files, labels and budget by other ways answer the same.
func TestUnlikeWays(t *testing.T) {
	good := 0
	for seed := range 300 {
		r := rand.New(rand.NewSource(int64(2500 + seed)))
		l, labels, b := anySnapshot(r), sorted(picks(r, 1+r.Intn(4), pool())), 1+r.Intn(4)
		straight := begin(t, l, labels, b)
		want := stateOf(straight.c)
		other := begin(t, nil, nil, 0)
		for range r.Intn(6) {
			other.turn(anySnapshot(r))
			other.add(pick(r, pool()))
			other.spend(1 + r.Intn(3))
			if r.Intn(2) == 0 {
				other.look("P20.3")
			}
			if r.Intn(3) == 0 {
				other.load(want.saved)
			}
		}
		other.turn(l)
		for _, a := range slices.Clone(other.labels) {
			other.drop(a)
		}
		r.Shuffle(len(labels), func(i, j int) { labels[i], labels[j] = labels[j], labels[i] })
		for _, a := range labels {
			other.add(a)
		}
		other.spend(b)
		got := stateOf(other.c)
		got.saved = want.saved // these may be others
		if !got.is(want) {
			t.Fatalf("P20.5: %+v, by another way %+v", want, got)
		}
		if want.fault.Code == api.OK {
			good++
		}
	}
	if good < 60 {
		t.Errorf("only %d have cones: the ways say too little", good)
	}
}

// P20.6

var (
	markFile   = api.File{Path: "mark", Text: "mark", Blob: -1, Size: -1}
	markLabel  = api.Label{Pkg: "mark", Name: "mark"}
	markChange = api.Change{Path: "mark", Had: true, Has: true, Old: markFile, New: markFile}
)

// withRoom gives a list in front of marks, and all of it.
func withRoom[T any](items []T, mark T) (list, whole []T) {
	whole = append(slices.Clone(items), mark, mark, mark, mark)
	return whole[:len(items)], whole
}

func fill[T any](l []T, mark T) {
	for i := range l[:cap(l)] {
		l[:cap(l)][i] = mark
	}
}

// harm writes over an answer, its spare room too, and over what becomes of it when it is lengthened.
func harm[T any](l []T, mark T) {
	longer := append(append(l, mark), mark)
	fill(l, mark)
	fill(longer, mark)
}

// harmAll writes over all that a compiler answers.
func harmAll(c *incr.Compiler) {
	for range 2 {
		k, f := c.Result()
		harm(k, "mark")
		harm(f.Circle, markLabel)
		harm(c.Files(), markFile)
		harm(c.Labels(), markLabel)
		harm(c.Save(), 0xaa)
	}
}

func TestWhatIsHandedInStays(t *testing.T) {
	r := rand.New(rand.NewSource(2601))
	for i := range 400 {
		was, next, asked := anySnapshot(r), anySnapshot(r), picks(r, 1+r.Intn(4), pool())
		if i%10 == 0 {
			asked = append(asked, asked[0]) // refused
		}
		l, wholeL := withRoom(was, markFile)
		labels, wholeT := withRoom(asked, markLabel)
		wasL, wasT := slices.Clone(wholeL), slices.Clone(wholeT)
		c, e := incr.New(l, labels, 2)
		stays := func(what string, ok bool) {
			t.Helper()
			if !ok || !slices.Equal(wholeL, wasL) || !slices.Equal(wholeT, wasT) {
				t.Fatalf("P20.6: %s changed what was handed in, or the room behind it", what)
			}
		}
		stays("New", true)
		if e != api.OK {
			continue
		}
		harmAll(c)
		stays("Result", true)
		d, wholeD := withRoom(delta.Diff(was, next), markChange)
		wasD := slices.Clone(wholeD)
		c.Apply(d)
		stays("Apply", slices.Equal(wholeD, wasD))
		c.Apply(d)
		harmAll(c)
		stays("a refused Apply", slices.Equal(wholeD, wasD))
		b, wholeB := withRoom(c.Save(), 0xcc)
		wasB := bytes.Clone(wholeB)
		if !c.Load(b) || c.Load(b[:len(b)-1]) { // the last byte stands in the spare room then
			t.Fatal("P20.4: Load")
		}
		c.Drop(labels[0])
		c.Add(labels[0])
		harmAll(c)
		stays("Load", bytes.Equal(wholeB, wasB))
	}
}

// TestNothingHandedInIsKept: what was handed in is written over, and so are all answers.
func TestNothingHandedInIsKept(t *testing.T) {
	r := rand.New(rand.NewSource(2602))
	codes := map[api.Errno]int{}
	for range 400 {
		l, wholeL := withRoom(anySnapshot(r), markFile)
		labels, wholeT := withRoom(picks(r, 1+r.Intn(4), pool()), markLabel)
		w := begin(t, l, labels, 2)
		fill(wholeL, markFile)
		fill(wholeT, markLabel)
		w.look("P20.6")
		harmAll(w.c)
		w.look("P20.6")
		for range 4 {
			d, wholeD := withRoom(parts(w.files, changed(r, w.files)), markChange)
			w.apply(d)
			fill(wholeD, markChange)
			b, wholeB := withRoom(w.c.Save(), 0xcc)
			w.load(b)
			fill(wholeB, 0xdd)
			harmAll(w.c)
			codes[w.look("P20.6").Code]++
			harmAll(w.c)
			w.add(pick(r, pool()))
			harmAll(w.c)
			w.drop(pick(r, pool()))
			harmAll(w.c)
			codes[w.look("P20.6").Code]++
		}
	}
	if codes[api.OK] < 200 || codes[api.ErrCycle] < 20 {
		t.Errorf("%v: the worlds say too little", codes)
	}
}

// TestAnswersShareNothing: earlier answers stay as they were, whatever is done later.
func TestAnswersShareNothing(t *testing.T) {
	r := rand.New(rand.NewSource(2603))
	for range 100 {
		w := begin(t, anySnapshot(r), picks(r, 1+r.Intn(4), pool()), 3)
		var answers, copies []state
		for range 12 {
			s := stateOf(w.c)
			answers = append(answers, s)
			s.cones, s.fault.Circle, s.files, s.labels, s.saved = slices.Clone(s.cones), slices.Clone(s.fault.Circle), slices.Clone(s.files), slices.Clone(s.labels), bytes.Clone(s.saved)
			copies = append(copies, s)
			w.apply(parts(w.files, changed(r, w.files)))
			w.drop(w.labels[0])
			w.add(pick(r, pool()))
			w.add(pick(r, pool()))
			harmAll(w.c)
		}
		for i := range answers {
			if !answers[i].is(copies[i]) {
				t.Fatalf("P20.6: an answer has become %+v, was %+v", answers[i], copies[i])
			}
		}
		for i := range answers {
			harm(answers[i].files, markFile)
			harm(answers[i].labels, markLabel)
			harm(answers[i].cones, "mark")
			harm(answers[i].fault.Circle, markLabel)
			harm(answers[i].saved, 0xbb)
			for j := i + 1; j < len(answers); j++ {
				if !answers[j].is(copies[j]) {
					t.Fatalf("P20.6: two answers share memory: %+v, was %+v", answers[j], copies[j])
				}
			}
		}
		w.look("P20.6")
	}
}

// TestCompilersShareNothing: of several that were handed the same lists, each goes its own way.
func TestCompilersShareNothing(t *testing.T) {
	r := rand.New(rand.NewSource(2604))
	for range 20 {
		l, labels := anySnapshot(r), picks(r, 2, pool())
		var twins []*twin
		for range 4 {
			twins = append(twins, begin(t, l, labels, 2))
		}
		twins[0].look("P20.6")
		b := twins[0].c.Save()
		for _, w := range twins[:3] {
			w.load(b)
		}
		for range 60 {
			w := pick(r, twins)
			switch r.Intn(6) {
			case 0, 1:
				w.apply(parts(w.files, changed(r, w.files)))
			case 2:
				w.add(pick(r, pool()))
			case 3:
				w.drop(pick(r, pool()))
			case 4:
				w.spend(1 + r.Intn(4))
			default:
				w.load(pick(r, twins).c.Save())
			}
			harmAll(w.c)
			pick(r, twins).look("P20.6")
		}
		for _, w := range twins {
			w.look("P20.6")
		}
	}
}

// TestSameStepsSameAnswers: all answers hang on what was done to the compiler alone, its bytes too.
func TestSameStepsSameAnswers(t *testing.T) {
	for seed := range 15 {
		var first []state
		for try := range 3 {
			r := rand.New(rand.NewSource(int64(2700 + seed)))
			w := begin(t, anySnapshot(r), picks(r, 3, pool()), 3)
			for i := range 40 {
				w.apply(parts(w.files, changed(r, w.files)))
				w.add(pick(r, pool()))
				w.drop(pick(r, pool()))
				s := stateOf(w.c)
				if try == 0 {
					first = append(first, s)
				} else if !s.is(first[i]) {
					t.Fatalf("P20.6: step %d: %+v, at first %+v", i, s, first[i])
				}
			}
		}
	}
}
