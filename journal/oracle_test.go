package journal_test

import (
	"encoding/binary"
	"fmt"
	"maps"
	"regexp"
	"slices"
	"strings"

	"copse/api"
)

// The oracle: the chapters' words over a model of a tree; it calls none of the program's layers.

// f is a file, target a manifest.
func f(p string, n int) api.File { return api.File{Path: p, Blob: n, Size: 1} }

func target(p, text string) api.File { return api.File{Path: p, Text: text, Size: len(text)} }

// list, ps and plans are for lines that would be too long.
func list(l ...api.File) []api.File { return l }

func ps(l ...string) []string { return l }

func plans(l ...api.Step) []api.Step { return l }

func remove(p string) api.Step  { return api.Step{Kind: 1, Path: p} }
func rmdir(p string) api.Step   { return api.Step{Kind: 2, Path: p} }
func mkdir(p string) api.Step   { return api.Step{Kind: 3, Path: p} }
func write(x api.File) api.Step { return api.Step{Kind: 4, Path: x.Path, File: x} }

// Paths and files.

var component = regexp.MustCompile(`^[a-zA-Z0-9._-]{1,32}$`)

// goodPath: a path, and not the root.
func goodPath(p string) bool {
	pieces := strings.Split(p, "/")
	for _, c := range pieces {
		if !component.MatchString(c) || c == "." || c == ".." || c == "..." {
			return false
		}
	}
	return len(p) <= 120 && len(pieces) <= 12
}

func goodFile(x api.File) bool {
	if x.Path == "TARGETS" || strings.HasSuffix(x.Path, "/TARGETS") {
		return x.Blob == 0 && x.Size == len(x.Text)
	}
	return x.Text == "" && 0 <= x.Blob && x.Blob <= 1<<60 && 0 <= x.Size && x.Size <= 1<<62
}

func byPieces(a, b string) int {
	return slices.Compare(strings.Split(a, "/"), strings.Split(b, "/"))
}

// above: of paths that are not the root.
func above(a, b string) bool { return strings.HasPrefix(b, a+"/") }

// over are the directories above a path, rising.
func over(p string) []string {
	pieces := strings.Split(p, "/")
	var l []string
	for i := 1; i < len(pieces); i++ {
		l = append(l, strings.Join(pieces[:i], "/"))
	}
	return l
}

func sorted(l []string) []string {
	l = slices.Clone(l)
	slices.SortFunc(l, byPieces)
	return slices.Compact(l)
}

func turnedRound[T any](l []T) []T {
	l = slices.Clone(l)
	slices.Reverse(l)
	return l
}

func snapFault(l []api.File) api.Errno {
	for _, x := range l {
		if !goodPath(x.Path) {
			return api.ErrPath
		}
	}
	for i, x := range l {
		if !goodFile(x) || i == 512 {
			return api.ErrSnap
		}
		for _, y := range l[i+1:] {
			if byPieces(x.Path, y.Path) >= 0 || above(x.Path, y.Path) {
				return api.ErrSnap
			}
		}
	}
	return api.OK
}

func byPath(l []api.File) map[string]api.File {
	m := map[string]api.File{}
	for _, x := range l {
		m[x.Path] = x
	}
	return m
}

func pathsOf(l []api.File) []string {
	var out []string
	for _, x := range l {
		out = append(out, x.Path)
	}
	return out
}

func dirsOf(l []api.File) []string {
	var out []string
	for _, x := range l {
		out = append(out, over(x.Path)...)
	}
	return sorted(out)
}

func lacks(l []string, p string) bool { return !slices.Contains(l, p) }

// stepsOf is the plan between two snapshots.
func stepsOf(old, now []api.File) []api.Step {
	was, will, oldDirs, nowDirs := byPath(old), byPath(now), dirsOf(old), dirsOf(now)
	var l []api.Step
	for _, x := range turnedRound(old) {
		if _, ok := will[x.Path]; !ok {
			l = append(l, remove(x.Path))
		}
	}
	for _, d := range turnedRound(oldDirs) {
		if lacks(nowDirs, d) {
			l = append(l, rmdir(d))
		}
	}
	for _, d := range nowDirs {
		if lacks(oldDirs, d) {
			l = append(l, mkdir(d))
		}
	}
	for _, x := range now {
		if y, ok := was[x.Path]; !ok || y != x {
			l = append(l, write(x))
		}
	}
	return l
}

// touched are the paths that a plan writes or deletes.
func touched(steps []api.Step) []string {
	var l []string
	for _, s := range steps {
		if s.Kind == 1 || s.Kind == 4 {
			l = append(l, s.Path)
		}
	}
	return l
}

// blocks: is a path that was changed by hand in the way of a step?
func blocks(p string, s api.Step) bool {
	switch s.Kind {
	case 1, 4:
		return p == s.Path || above(p, s.Path) || above(s.Path, p)
	case 2:
		return p == s.Path || above(s.Path, p)
	}
	return false
}

// Records.

func number(n uint64) []byte { return binary.LittleEndian.AppendUint64(nil, n) }

func text(s string) []byte {
	return append(binary.LittleEndian.AppendUint32(nil, uint32(len(s))), s...)
}

// laid are the bytes of any steps, of such as may not be too.
func laid(l ...api.Step) []byte {
	b := number(uint64(len(l)))
	for _, s := range l {
		b = append(b, byte(s.Kind))
		b = append(b, text(s.Path)...)
		if s.Kind == 4 {
			b = append(b, text(s.File.Text)...)
			b = append(b, number(uint64(s.File.Blob))...)
			b = append(b, number(uint64(s.File.Size))...)
		}
	}
	return append(number(uint64(len(b))), b...)
}

// whole is a committed journal.
func whole(l ...api.Step) []byte { return append(laid(l...), 1) }

func goodStep(s api.Step) bool {
	if s.Kind == 4 {
		return goodPath(s.Path) && s.File.Path == s.Path && goodFile(s.File)
	}
	return 1 <= s.Kind && s.Kind <= 3 && goodPath(s.Path) && s.File == api.File{}
}

// cutter takes bytes off; once too few were left it has nothing but noughts.
type cutter struct {
	b     []byte
	short bool
}

func (c *cutter) take(n uint64) []byte {
	if n > uint64(len(c.b)) {
		c.b, c.short = nil, true
		return make([]byte, 8)
	}
	b := c.b[:n]
	c.b = c.b[n:]
	return b
}

func (c *cutter) byte() byte     { return c.take(1)[0] }
func (c *cutter) number() uint64 { return binary.LittleEndian.Uint64(c.take(8)) }

func (c *cutter) text() string {
	n := binary.LittleEndian.Uint32(c.take(4))
	if b := c.take(uint64(n)); !c.short {
		return string(b)
	}
	return ""
}

// stepsIn are a committed journal's steps.
func stepsIn(b []byte) ([]api.Step, bool) {
	c := cutter{b: b}
	size := c.number()
	if c.short || len(c.b) == 0 || size != uint64(len(c.b)-1) {
		return nil, false
	}
	var l []api.Step
	for n := c.number(); n > 0 && !c.short; n-- {
		s := api.Step{Kind: int(c.byte()), Path: c.text()}
		if s.Kind == 4 {
			s.File = api.File{Path: s.Path, Text: c.text()}
			blob, size := c.number(), c.number()
			if blob > 1<<60 || size > 1<<62 {
				return nil, false
			}
			s.File.Blob, s.File.Size = int(blob), int(size)
		}
		if c.short || !goodStep(s) {
			return nil, false
		}
		l = append(l, s)
	}
	if c.byte() != 1 || c.short || len(c.b) != 0 {
		return nil, false
	}
	return l, true
}

// model is what a tree must be.
type model struct {
	files   map[string]api.File
	dirs    map[string]bool
	journal []byte
	steps   int
	stop    int // the step at which it stops, by its number; 0: none
	down    bool
	torn    []byte
}

func modelOf(l ...api.File) *model {
	m := &model{files: byPath(l), dirs: map[string]bool{}}
	for _, d := range dirsOf(l) {
		m.dirs[d] = true
	}
	return m
}

func (m *model) crash(keep int) *model {
	n := len(m.torn) + 1
	return &model{
		files:   maps.Clone(m.files),
		dirs:    maps.Clone(m.dirs),
		journal: slices.Concat(m.journal, m.torn[:(keep%n+n)%n]),
	}
}

// stops counts a step.
func (m *model) stops(torn []byte) bool {
	m.steps++
	if !m.down && m.stop > 0 && m.steps == m.stop {
		m.down, m.torn = true, slices.Clone(torn)
	}
	return m.down
}

func (m *model) isFile(p string) bool {
	_, ok := m.files[p]
	return ok
}

func (m *model) isDir(p string) bool { return p == "" || m.dirs[p] }

func (m *model) isEmpty(d string) bool {
	for p := range m.files {
		if above(d, p) {
			return false
		}
	}
	for p := range m.dirs {
		if above(d, p) {
			return false
		}
	}
	return true
}

func (m *model) inDir(p string) bool {
	l := over(p)
	return len(l) == 0 || m.dirs[l[len(l)-1]]
}

// did counts a step, asks whether it may be, and does it.
func (m *model) did(may bool, do func()) api.Errno {
	switch {
	case m.stops(nil):
		return api.ErrDown
	case !may:
		return api.ErrTree
	}
	do()
	return api.OK
}

func (m *model) mkdir(p string) api.Errno {
	return m.did(goodPath(p) && !m.isFile(p) && !m.isDir(p) && m.inDir(p), func() { m.dirs[p] = true })
}

func (m *model) write(x api.File) api.Errno {
	return m.did(!m.isDir(x.Path) && m.inDir(x.Path), func() { m.files[x.Path] = x })
}

func (m *model) remove(p string) api.Errno {
	return m.did(m.isFile(p), func() { delete(m.files, p) })
}

func (m *model) rmdir(p string) api.Errno {
	return m.did(m.dirs[p] && m.isEmpty(p), func() { delete(m.dirs, p) })
}

func (m *model) lengthen(b []byte) api.Errno {
	if m.stops(b) {
		return api.ErrDown
	}
	m.journal = slices.Concat(m.journal, b)
	return api.OK
}

func (m *model) clear() api.Errno { return m.did(true, func() { m.journal = nil }) }

// mkdirs makes directories, rising, where nothing is.
func (m *model) mkdirs(l []string) api.Errno {
	for _, d := range l {
		if m.isFile(d) || m.isDir(d) {
			continue
		}
		if e := m.mkdir(d); e != api.OK {
			return e
		}
	}
	return api.OK
}

// carry carries a step out.
func (m *model) carry(s api.Step) api.Errno {
	switch s.Kind {
	case 1:
		if m.isFile(s.Path) {
			return m.remove(s.Path)
		}
	case 2:
		if m.dirs[s.Path] && m.isEmpty(s.Path) {
			return m.rmdir(s.Path)
		}
	case 3:
		return m.mkdirs(append(over(s.Path), s.Path))
	case 4:
		if e := m.mkdirs(over(s.Path)); e != api.OK {
			return e
		}
		return m.write(s.File)
	}
	return api.OK
}

// dirty: does something that was changed by hand stand in the way?
func (m *model) dirty(old []api.File, steps []api.Step) bool {
	was := byPath(old)
	for _, p := range append(slices.Collect(maps.Keys(m.files)), pathsOf(old)...) {
		x, is := m.files[p]
		y, had := was[p]
		if x == y && is == had {
			continue
		}
		for _, s := range steps {
			if blocks(p, s) {
				return true
			}
		}
	}
	oldDirs := dirsOf(old)
	for d := range m.dirs {
		for _, s := range steps {
			if s.Kind == 4 && (d == s.Path || above(s.Path, d)) && lacks(oldDirs, d) {
				return true
			}
		}
	}
	return false
}

// goes is Go.
func (m *model) goes(old, now []api.File) api.Errno {
	for _, l := range [][]api.File{old, now} {
		if e := snapFault(l); e != api.OK {
			return e
		}
	}
	if len(m.journal) > 0 {
		return api.ErrTree
	}
	steps := stepsOf(old, now)
	if m.dirty(old, steps) {
		return api.ErrDirty
	}
	if len(steps) == 0 {
		return api.OK
	}
	for _, b := range [][]byte{laid(steps...), {1}} {
		if e := m.lengthen(b); e != api.OK {
			return e
		}
	}
	return m.carryAll(steps)
}

// recovers is Recover.
func (m *model) recovers() api.Errno {
	if len(m.journal) == 0 {
		return api.OK
	}
	steps, _ := stepsIn(m.journal)
	return m.carryAll(steps)
}

func (m *model) carryAll(steps []api.Step) api.Errno {
	for _, s := range steps {
		if e := m.carry(s); e != api.OK {
			return e
		}
	}
	return m.clear()
}

// told is all that a tree tells.
type told struct {
	files   []api.File
	dirs    []string
	journal []byte
	steps   int
}

func (m *model) told() told {
	w := told{journal: slices.Clone(m.journal), steps: m.steps}
	for _, x := range m.files {
		w.files = append(w.files, x)
	}
	slices.SortFunc(w.files, func(x, y api.File) int { return byPieces(x.Path, y.Path) })
	w.dirs = sorted(slices.Collect(maps.Keys(m.dirs)))
	return w
}

func (a told) is(b told) bool {
	return slices.Equal(a.files, b.files) && slices.Equal(a.dirs, b.dirs) && slices.Equal(a.journal, b.journal) && a.steps == b.steps
}

// key is all but the steps that were counted.
func (a told) key() string { return fmt.Sprintf("%+v %q %q", a.files, a.dirs, a.journal) }
