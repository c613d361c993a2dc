package tree_test

import (
	"bytes"
	"fmt"
	"math/big"
	"regexp"
	"slices"
	"strings"
	"testing"

	"copse/api"
	"copse/snap"
	"copse/tree"
)

// The oracle: the chapter's words, taken apart anew; it calls none of the program's layers.

var component = regexp.MustCompile(`^[a-zA-Z0-9._-]{1,32}$`)

func goodPath(p string) bool {
	if p == "" {
		return true
	}
	pieces := strings.Split(p, "/")
	for _, c := range pieces {
		if !component.MatchString(c) || c == "." || c == ".." || c == "..." {
			return false
		}
	}
	return len(p) <= 120 && len(pieces) <= 12
}

func fileFault(f api.File) api.Errno {
	manifest := f.Path == "TARGETS" || strings.HasSuffix(f.Path, "/TARGETS")
	switch {
	case f.Path == "" || !goodPath(f.Path):
		return api.ErrPath
	case manifest && (f.Blob != 0 || f.Size != len(f.Text)):
		return api.ErrSnap
	case !manifest && (f.Text != "" || f.Blob < 0 || f.Blob > 1<<60 || f.Size < 0 || f.Size > 1<<62):
		return api.ErrSnap
	}
	return api.OK
}

func dirOf(p string) string {
	return p[:max(strings.LastIndexByte(p, '/'), 0)]
}

func byPieces(a, b string) int {
	return slices.Compare(strings.Split(a, "/"), strings.Split(b, "/"))
}

func sorted(l ...string) []string {
	slices.SortFunc(l, byPieces)
	return l
}

// step is a call of a step.
type step struct {
	kind  string
	path  string
	file  api.File
	bytes []byte
}

func mkdir(p string) step        { return step{kind: "Mkdir", path: p} }
func write(f api.File) step      { return step{kind: "Write", file: f} }
func remove(p string) step       { return step{kind: "Delete", path: p} }
func rmdir(p string) step        { return step{kind: "Rmdir", path: p} }
func lengthen(b ...byte) step    { return step{kind: "Append", bytes: b} }
func empty() step                { return step{kind: "Clear"} }
func f(p string, n int) api.File { return api.File{Path: p, Blob: n, Size: 1} }

func target(p, text string) api.File { return api.File{Path: p, Text: text, Size: len(text)} }

func (s step) String() string {
	switch s.kind {
	case "Write":
		return fmt.Sprintf("Write(%+v)", s.file)
	case "Append":
		return fmt.Sprintf("Append(%d)", s.bytes)
	case "Clear":
		return "Clear()"
	}
	return fmt.Sprintf("%s(%.150q)", s.kind, s.path)
}

func (s step) on(x *tree.Tree) api.Errno {
	switch s.kind {
	case "Mkdir":
		return x.Mkdir(s.path)
	case "Write":
		return x.Write(s.file)
	case "Delete":
		return x.Delete(s.path)
	case "Rmdir":
		return x.Rmdir(s.path)
	case "Append":
		return x.Append(s.bytes)
	}
	return x.Clear()
}

// model is what a tree must be. The step at which it is stopped is kept by its number from the tree's making on.
type model struct {
	files   map[string]api.File
	dirs    map[string]bool
	journal []byte
	steps   uint64
	stop    uint64
	first   *step
}

func modelOf(l ...api.File) *model {
	m := &model{files: map[string]api.File{}, dirs: map[string]bool{}}
	for _, f := range l {
		m.files[f.Path] = f
		for d := dirOf(f.Path); d != ""; d = dirOf(d) {
			m.dirs[d] = true
		}
	}
	return m
}

func (m *model) isDir(p string) bool { return p == "" || m.dirs[p] }

func (m *model) isFile(p string) bool {
	_, ok := m.files[p]
	return ok
}

func (m *model) isEmpty(dir string) bool {
	for p := range m.files {
		if strings.HasPrefix(p, dir+"/") {
			return false
		}
	}
	for d := range m.dirs {
		if strings.HasPrefix(d, dir+"/") {
			return false
		}
	}
	return true
}

// refused is what a step is answered by a tree that is not stopped.
func (m *model) refused(s step) api.Errno {
	bad := false
	switch s.kind {
	case "Mkdir":
		bad = !goodPath(s.path) || m.isFile(s.path) || m.isDir(s.path) || !m.isDir(dirOf(s.path))
	case "Write":
		if e := fileFault(s.file); e != api.OK {
			return e
		}
		bad = m.isDir(s.file.Path) || !m.isDir(dirOf(s.file.Path))
	case "Delete":
		bad = !m.isFile(s.path)
	case "Rmdir":
		bad = s.path == "" || !m.isDir(s.path) || !m.isEmpty(s.path)
	}
	if bad {
		return api.ErrTree
	}
	return api.OK
}

func (m *model) do(s step) api.Errno {
	m.steps++
	if m.stop > 0 && m.steps >= m.stop {
		if m.first == nil {
			s.bytes = bytes.Clone(s.bytes)
			m.first = &s
		}
		return api.ErrDown
	}
	if e := m.refused(s); e != api.OK {
		return e
	}
	switch s.kind {
	case "Mkdir":
		m.dirs[s.path] = true
	case "Write":
		m.files[s.file.Path] = s.file
	case "Delete":
		delete(m.files, s.path)
	case "Rmdir":
		delete(m.dirs, s.path)
	case "Append":
		m.journal = slices.Concat(m.journal, s.bytes)
	default:
		m.journal = nil
	}
	return api.OK
}

func (m *model) setStop(n int) {
	switch {
	case m.first != nil:
	case n < 1:
		m.stop = 0
	default:
		m.stop = m.steps + uint64(n)
	}
}

func (m *model) crash(keep int) *model {
	c := modelOf()
	for p, f := range m.files {
		c.files[p] = f
	}
	for d := range m.dirs {
		c.dirs[d] = true
	}
	c.journal = bytes.Clone(m.journal)
	if m.first != nil && m.first.kind == "Append" {
		many := big.NewInt(int64(len(m.first.bytes)) + 1)
		n := new(big.Int).Mod(big.NewInt(int64(keep)), many) // Euclid's: from 0 on
		c.journal = slices.Concat(c.journal, m.first.bytes[:n.Int64()])
	}
	return c
}

// told is all that a tree tells.
type told struct {
	files   []api.File
	dirs    []string
	journal []byte
	steps   int
}

func ask(x *tree.Tree) told {
	return told{x.Files(), x.Dirs(), x.Journal(), x.Steps()}
}

func (m *model) told() told {
	w := told{journal: bytes.Clone(m.journal), steps: int(m.steps)}
	for _, f := range m.files {
		w.files = append(w.files, f)
	}
	for d := range m.dirs {
		w.dirs = append(w.dirs, d)
	}
	slices.SortFunc(w.files, func(f, g api.File) int { return byPieces(f.Path, g.Path) })
	sorted(w.dirs...)
	return w
}

func (a told) is(b told) bool {
	return slices.Equal(a.files, b.files) && slices.Equal(a.dirs, b.dirs) && bytes.Equal(a.journal, b.journal) && a.steps == b.steps
}

func (a told) copied() told {
	return told{slices.Clone(a.files), slices.Clone(a.dirs), bytes.Clone(a.journal), a.steps}
}

// twin is a tree and its model, to which the same is done.
type twin struct {
	t *testing.T
	x *tree.Tree
	m *model
}

func grown(t *testing.T, l ...api.File) *tree.Tree {
	t.Helper()
	x, e := tree.New(l)
	if x == nil || e != api.OK {
		t.Fatalf("P21.1: New(%+v): %v, %d", l, x, e)
	}
	return x
}

func begin(t *testing.T, l ...api.File) *twin {
	t.Helper()
	w := &twin{t, grown(t, l...), modelOf(l...)}
	w.holds("P21.1")
	return w
}

// does does a step to both: the answers must be the same.
func (w *twin) does(promise string, s step) api.Errno {
	w.t.Helper()
	got, want := s.on(w.x), w.m.do(s)
	if got != want {
		w.t.Fatalf("%s: %v: %d, want %d, of %+v", promise, s, got, want, w.m.told())
	}
	return want
}

// doesAll does steps, each of which must be answered so, and looks behind each.
func (w *twin) doesAll(promise string, want api.Errno, steps ...step) {
	w.t.Helper()
	for _, s := range steps {
		if e := w.does(promise, s); e != want {
			w.t.Errorf("%s: %v: %d, want %d", promise, s, e, want)
		}
		w.holds(promise)
	}
}

func (w *twin) stop(n int) {
	w.x.Stop(n)
	w.m.setStop(n)
}

// crashed goes on with what a crash leaves.
func (w *twin) crashed(keep int) *twin {
	w.t.Helper()
	c := &twin{w.t, w.x.Crash(keep), w.m.crash(keep)}
	if c.x == nil || c.x == w.x {
		w.t.Fatalf("P21.7: Crash(%d) is no new tree", keep)
	}
	c.holds("P21.7")
	w.holds("P21.7")
	return c
}

// holds: does the tree tell what it must, and does P21.10 hold of it?
func (w *twin) holds(promise string) {
	w.t.Helper()
	if got, want := ask(w.x), w.m.told(); !got.is(want) {
		w.t.Fatalf("%s: %+v, want %+v", promise, got, want)
	}
	shape(w.t, w.x)
}

// shape: P21.10's first sentence, by what the tree tells alone.
func shape(t *testing.T, x *tree.Tree) {
	t.Helper()
	files, dirs := x.Files(), x.Dirs()
	for first := 0; first < len(files); first += 511 { // pieces that overlap, so that each has its neighbours
		if e := snap.Valid(files[first:min(first+512, len(files))]); e != api.OK {
			t.Fatalf("P21.10: Files is no snapshot (%d): %+v", e, files)
		}
	}
	all := map[string]int{"": 0}
	for i, d := range dirs {
		all[d]++
		if d == "" || !goodPath(d) || all[d] > 1 || i > 0 && byPieces(dirs[i-1], d) >= 0 {
			t.Fatalf("P21.8: Dirs: %q", dirs)
		}
	}
	for _, f := range files {
		if _, ok := all[dirOf(f.Path)]; !ok || all[f.Path] > 0 {
			t.Fatalf("P21.10: %q has no directory, or is one: %q", f.Path, dirs)
		}
	}
	for _, d := range dirs {
		if _, ok := all[dirOf(d)]; !ok {
			t.Fatalf("P21.10: %q has no directory: %q", d, dirs)
		}
	}
}
