package cache_test

import (
	"bytes"
	"encoding/binary"
	"encoding/hex"
	"fmt"
	"math"
	"math/rand"
	"regexp"
	"slices"
	"strconv"
	"strings"
	"testing"

	"copse/api"
	"copse/cache"
	"copse/manifest"
)

func repeat(s string, n int) string { return strings.Repeat(s, n) }

func texts(l ...string) []string { return l }

// key is what an entry is found by.
type key struct{ path, text string }

// entry is what the bytes say of one; they may say what its parse does not.
type entry struct {
	key
	place   int
	targets []api.Target
}

// entryOf is an entry as it should be.
func entryOf(k key) entry {
	dir := strings.TrimSuffix(strings.TrimSuffix(k.path, "TARGETS"), "/")
	targets, place := manifest.Parse(dir, k.text)
	return entry{k, place, targets}
}

func entriesOf(keys ...key) []entry {
	var l []entry
	for _, k := range keys {
		l = append(l, entryOf(k))
	}
	return l
}

func sameTarget(a, b api.Target) bool {
	return a.Name == b.Name && slices.Equal(a.Srcs, b.Srcs) && slices.Equal(a.Deps, b.Deps) && slices.Equal(a.See, b.See)
}

func sameTargets(a, b []api.Target) bool { return slices.EqualFunc(a, b, sameTarget) }

func sameEntry(a, b entry) bool {
	return a.key == b.key && a.place == b.place && sameTargets(a.targets, b.targets)
}

// deep is a list of targets that shares nothing with the one it is made of.
func deep(l []api.Target) []api.Target {
	var out []api.Target
	for _, t := range l {
		out = append(out, api.Target{
			Name: t.Name,
			Srcs: append([]string(nil), t.Srcs...),
			Deps: append([]api.Label(nil), t.Deps...),
			See:  append([]string(nil), t.See...),
		})
	}
	return out
}

func deepEntries(l []entry) []entry {
	var out []entry
	for _, e := range l {
		out = append(out, entry{e.key, e.place, deep(e.targets)})
	}
	return out
}

// The oracle: the chapter's words. Of a cache it keeps the keys alone, from the oldest to the youngest.

var component = regexp.MustCompile(`\A[a-zA-Z0-9._-]{1,32}\z`)

func isManifest(p string) bool {
	l := strings.Split(p, "/")
	for _, s := range l {
		if !component.MatchString(s) || s == "." || s == ".." || s == "..." {
			return false
		}
	}
	return len(p) <= 120 && len(l) <= 12 && l[len(l)-1] == "TARGETS"
}

type model struct{ keys []key }

func (m *model) put(k key) api.Errno {
	if !isManifest(k.path) {
		return api.ErrPath
	}
	if len(k.text) > 4096 {
		return api.ErrText
	}
	var keys []key
	for _, had := range m.keys {
		if had != k {
			keys = append(keys, had)
		}
	}
	m.keys = append(keys, k)
	if len(m.keys) > 512 {
		m.keys = m.keys[1:]
	}
	return api.OK
}

func (m *model) has(k key) bool { return slices.Contains(m.keys, k) }

// The bytes, in pieces: numbers of four or eight bytes, and bytes of texts.

type piece struct {
	what  string
	width int // of a number; 0 of a text's bytes
	n     uint64
	bytes string
}

type pieces []piece

func (l *pieces) number(what string, width int, n uint64) {
	*l = append(*l, piece{what: what, width: width, n: n})
}

func (l *pieces) text(what, s string) {
	l.number("length of "+what, 4, uint64(len(s)))
	*l = append(*l, piece{what: what, bytes: s})
}

func (l *pieces) texts(what string, all []string) {
	l.number("number of "+what+"s", 4, uint64(len(all)))
	for _, s := range all {
		l.text(what, s)
	}
}

func piecesOf(entries []entry) pieces {
	var l pieces
	l.text("head", "copse cache 1")
	l.number("number of entries", 4, uint64(len(entries)))
	for _, e := range entries {
		l.text("path", e.path)
		l.text("text", e.text)
		l.number("place", 8, uint64(e.place))
		l.number("number of targets", 4, uint64(len(e.targets)))
		for _, t := range e.targets {
			l.text("name", t.Name)
			l.texts("source", t.Srcs)
			l.number("number of deps", 4, uint64(len(t.Deps)))
			for _, d := range t.Deps {
				l.text("dep's package", d.Pkg)
				l.text("dep's name", d.Name)
			}
			l.texts("seer", t.See)
		}
	}
	return l
}

func (l pieces) laid() []byte {
	var b []byte
	for _, p := range l {
		switch p.width {
		case 4:
			b = binary.LittleEndian.AppendUint32(b, uint32(p.n))
		case 8:
			b = binary.LittleEndian.AppendUint64(b, p.n)
		default:
			b = append(b, p.bytes...)
		}
	}
	return b
}

func bytesOf(entries ...entry) []byte { return piecesOf(entries).laid() }

func (m *model) bytes() []byte { return bytesOf(entriesOf(m.keys...)...) }

// scan takes bytes to pieces again; short is set where they end too early.
type scan struct {
	b     []byte
	short bool
}

func (s *scan) take(n uint64) []byte {
	if s.short || n > uint64(len(s.b)) {
		s.short = true
		return make([]byte, 8)
	}
	b := s.b[:n]
	s.b = s.b[n:]
	return b
}

func (s *scan) four() uint64 { return uint64(binary.LittleEndian.Uint32(s.take(4))) }

func (s *scan) text() string { return string(s.take(s.four())) }

func (s *scan) texts() []string {
	var l []string
	for n := s.four(); n > 0 && !s.short; n-- {
		l = append(l, s.text())
	}
	return l
}

func (s *scan) target() api.Target {
	t := api.Target{Name: s.text(), Srcs: s.texts()}
	for n := s.four(); n > 0 && !s.short; n-- {
		t.Deps = append(t.Deps, api.Label{Pkg: s.text(), Name: s.text()})
	}
	t.See = s.texts()
	return t
}

func (s *scan) entry() entry {
	e := entry{key: key{s.text(), s.text()}, place: int(binary.LittleEndian.Uint64(s.take(8)))}
	for n := s.four(); n > 0 && !s.short; n-- {
		e.targets = append(e.targets, s.target())
	}
	return e
}

// scanned gives the keys of bytes that are a cache's.
func scanned(b []byte) ([]key, bool) {
	s := &scan{b: b}
	if s.text() != "copse cache 1" || s.short {
		return nil, false
	}
	n := s.four()
	if s.short || n > 512 {
		return nil, false
	}
	var keys []key
	for range n {
		e := s.entry()
		if s.short || !isManifest(e.path) || len(e.text) > 4096 || slices.Contains(keys, e.key) || !sameEntry(e, entryOf(e.key)) {
			return nil, false
		}
		keys = append(keys, e.key)
	}
	return keys, len(s.b) == 0
}

// What the tests ask.

func filled(t *testing.T, keys ...key) *cache.Cache {
	t.Helper()
	c := cache.New()
	for _, k := range keys {
		if e := c.Put(k.path, k.text); e != api.OK {
			t.Fatalf("P19.2: Put(%q, %.60q): %d", k.path, k.text, e)
		}
	}
	return c
}

func has(t *testing.T, promise string, c *cache.Cache, k key) {
	t.Helper()
	want := entryOf(k)
	if l, at, ok := c.Get(k.path, k.text); !ok || at != want.place || !sameTargets(l, want.targets) {
		t.Fatalf("%s: Get(%q, %.200q): %+v, %d, %v, want %+v, %d, true", promise, k.path, k.text, l, at, ok, want.targets, want.place)
	}
}

func hasNot(t *testing.T, promise string, c *cache.Cache, k key) {
	t.Helper()
	if l, at, ok := c.Get(k.path, k.text); ok || at != 0 || len(l) != 0 {
		t.Fatalf("%s: Get(%q, %.200q): %+v, %d, %v, want none, 0, false", promise, k.path, k.text, l, at, ok)
	}
}

func saves(t *testing.T, promise string, c *cache.Cache, want []byte) {
	t.Helper()
	if got := c.Save(); !bytes.Equal(got, want) {
		t.Fatalf("%s: Save():\n% x, want\n% x", promise, got[:min(len(got), 2000)], want[:min(len(want), 2000)])
	}
}

// holds asks for all that a cache tells: it must have these keys, in the order of their ages, and none of the others.
func holds(t *testing.T, promise string, c *cache.Cache, m *model, others ...key) {
	t.Helper()
	if c.Len() != len(m.keys) {
		t.Fatalf("%s: Len(): %d, want %d", promise, c.Len(), len(m.keys))
	}
	for _, k := range m.keys {
		has(t, promise, c, k)
	}
	for _, k := range others {
		if !m.has(k) {
			hasNot(t, promise, c, k)
		}
	}
	saves(t, promise, c, m.bytes())
}

func loaded(t *testing.T, promise string, b []byte) *cache.Cache {
	t.Helper()
	c, e := cache.Load(b)
	if e != api.OK || c == nil {
		t.Fatalf("%s: Load(% x): one: %v, %d", promise, b[:min(len(b), 2000)], c != nil, e)
	}
	return c
}

func refused(t *testing.T, promise, what string, b []byte) {
	t.Helper()
	if c, e := cache.Load(b); e != api.ErrCache || c != nil {
		t.Fatalf("%s: %s: Load(% x): one: %v, %d, want none, %d", promise, what, b[:min(len(b), 2000)], c != nil, e, api.ErrCache)
	}
}

// judged holds Load against the oracle; it tells whether the bytes are a cache's.
func judged(t *testing.T, what string, b []byte) bool {
	t.Helper()
	keys, ok := scanned(b)
	if !ok {
		refused(t, "P19.4", what, b)
		return false
	}
	c := loaded(t, "P19.4: "+what, b)
	holds(t, "P19.4: "+what, c, &model{keys})
	saves(t, "P19.5: "+what, c, b)
	return true
}

// Manifests of all kinds.

const full = "target a{srcs=[x.c,d/*.h]deps=[:b,//q:c,//:e]see=[public,//q/...]}\ntarget b{deps=[:c]}# end\ntarget c{}target d{see=[//]srcs=[*]}"

func numbered(ahead string, n int) string {
	var l []string
	for i := range n {
		l = append(l, ahead+strconv.Itoa(100+i))
	}
	return strings.Join(l, ",")
}

func manifests() []string {
	many := ""
	for i := range 64 {
		many += "target t" + strconv.Itoa(i) + "{}"
	}
	return texts(
		"", " ", "# nothing\n", "target a{}", "target b{}", "target a{} ", " target a{}", full, many, many+"target x{}",
		"target a{srcs=["+numbered("s", 64)+"]deps=["+numbered(":d", 64)+"]see=["+numbered("//p", 64)+"]}",
		"target a{srcs=["+numbered("s", 65)+"]}",
		"target a{deps=["+numbered("//"+repeat("p/", 11)+"p:", 64)+"]}",
		"x", ";", "\x00", "\xff\xfe", "\xc3\xa9", "target a{", "target a{}}", "target a{};", "target a{} target a{}", "target a{deps=[:b,//p:b]}", "target a{deps=[:b,//:b]}",
		"target a{srcs=[TARGETS]}", "copse cache 1", "\x0d\x00\x00\x00copse cache 1\x00\x00\x00\x00",
		repeat(" ", 4096), repeat(" ", 4095)+"x", repeat("#", 4096), repeat("target a{}", 409), "target a{}"+repeat(" ", 4086), "target a{"+repeat(" ", 4087),
	)
}

// longest is a package whose manifest's path has just MaxPath bytes.
var longest = repeat(repeat("w", 27)+"/", 3) + repeat("w", 28)

func packs() []string {
	return texts("TARGETS", "p/TARGETS", "q/TARGETS", "TARGETS/TARGETS", "p/q/TARGETS", repeat("p/", 11)+"TARGETS", longest+"/TARGETS")
}

func allKeys() []key {
	var l []key
	for _, p := range packs() {
		for _, s := range manifests() {
			l = append(l, key{p, s})
		}
	}
	return l
}

// some are keys of which the bytes have all of the form in them.
func some() []key {
	return []key{{"p/TARGETS", full}, {"TARGETS", "x"}, {"q/TARGETS", "target a{}"}, {"p/TARGETS", "target a{} "}, {"p/q/TARGETS", ""}, {"TARGETS", full}}
}

// P19.1

func TestNew(t *testing.T) {
	c := cache.New()
	if c == nil {
		t.Fatal("P19.1: New(): none")
	}
	holds(t, "P19.1", c, &model{}, allKeys()...)
	for i, k := range some() {
		c.Put(k.path, k.text)
		if c.Len() != i+1 {
			t.Errorf("P19.1: %d were put, Len(): %d", i+1, c.Len())
		}
	}
	for _, k := range some() {
		c.Put(k.path, k.text)
		if c.Len() != len(some()) {
			t.Errorf("P19.1: put again, Len(): %d", c.Len())
		}
	}
	if n := cache.New().Len(); n != 0 {
		t.Errorf("P19.1: a new one's Len(): %d", n)
	}
}

// P19.1 to P19.4: the chapter's examples.

func TestExample1(t *testing.T) {
	b := cache.New().Save()
	if got := hex.EncodeToString(b); got != "0d000000"+hex.EncodeToString([]byte("copse cache 1"))+"00000000" || len(b) != 21 {
		t.Fatalf("P19.4: Save(): %s", got)
	}
	c := loaded(t, "P19.4", b)
	holds(t, "P19.4", c, &model{}, some()...)
	for n := range 21 {
		refused(t, "P19.4", "a beginning", b[:n])
	}
	for more := range 256 {
		refused(t, "P19.4", "a byte more", append(bytes.Clone(b), byte(more)))
	}
}

func second(t *testing.T) *cache.Cache {
	t.Helper()
	c := cache.New()
	for i, x := range []struct {
		key
		want api.Errno
	}{
		{key{"p/TARGETS", "target a{}"}, api.OK},
		{key{"p/x", ""}, api.ErrPath},
		{key{"", ""}, api.ErrPath},
		{key{"TARGETS", "x"}, api.OK},
		{key{"TARGETS", repeat(" ", 4097)}, api.ErrText},
	} {
		if e := c.Put(x.path, x.text); e != x.want {
			t.Errorf("P19.2: Put %d: %d, want %d", i, e, x.want)
		}
	}
	return c
}

func TestExample2(t *testing.T) {
	c := second(t)
	l, at, ok := c.Get("p/TARGETS", "target a{}")
	if !sameTargets(l, []api.Target{{Name: "a"}}) || at != -1 || !ok {
		t.Errorf("P19.3: %+v, %d, %v", l, at, ok)
	}
	l, at, ok = c.Get("TARGETS", "x")
	if len(l) != 0 || at != 0 || !ok {
		t.Errorf("P19.3: %+v, %d, %v", l, at, ok)
	}
	for _, k := range []key{{"q/TARGETS", "target a{}"}, {"p/TARGETS", "target a {}"}, {"p/x", ""}, {"", ""}, {"TARGETS", repeat(" ", 4097)}} {
		hasNot(t, "P19.3", c, k)
	}
}

// secondBytes are those of the cache of example 2, written out.
func secondBytes(name string) []byte {
	return []byte("\x0d\x00\x00\x00copse cache 1\x02\x00\x00\x00" +
		"\x09\x00\x00\x00p/TARGETS\x0a\x00\x00\x00target " + name + "{}\xff\xff\xff\xff\xff\xff\xff\xff\x01\x00\x00\x00" +
		"\x01\x00\x00\x00a\x00\x00\x00\x00\x00\x00\x00\x00\x00\x00\x00\x00" +
		"\x07\x00\x00\x00TARGETS\x01\x00\x00\x00x\x00\x00\x00\x00\x00\x00\x00\x00\x00\x00\x00\x00")
}

func TestExample3(t *testing.T) {
	c := second(t)
	saves(t, "P19.4", c, secondBytes("a"))
	saves(t, "P19.4", loaded(t, "P19.4", secondBytes("a")), secondBytes("a"))
	refused(t, "P19.4", "a text turned", secondBytes("b"))
}

// P19.2

func noPaths() []string {
	l := texts("/", "//", "/TARGETS", "TARGETS/", "a/TARGETS/", "a//TARGETS", "//TARGETS", "./TARGETS", "../TARGETS", ".../TARGETS", "a/../TARGETS", ".", "..", "...", "a b/TARGETS", " TARGETS", "TARGETS ", "TARGETS\n",
		"TARGETS\x00", "\x00/TARGETS", "\xff/TARGETS", "\xc3\xa9/TARGETS", "a:b/TARGETS", "*/TARGETS", "a\\TARGETS", "//p:TARGETS",
		repeat("p/", 12)+"TARGETS", repeat("w", 33)+"/TARGETS", longest+"w/TARGETS", repeat("w", 1<<16)+"/TARGETS", repeat("/", 1<<16)+"TARGETS")
	for c := range 256 {
		if s := string([]byte{byte(c)}); s != "/" && !component.MatchString(s) {
			l = append(l, "a"+s+"/TARGETS", s+"TARGETS")
		}
	}
	return l
}

func noManifests() []string {
	return texts("", "x", "p", "p/x", "aTARGETS", "p/aTARGETS", "TARGETSa", "p/TARGETSa", "TARGETS/a", "p/TARGETS/a", "TARGETS/TARGETS/a", "TARGETS.", ".TARGETS", "TARGETS-", "-TARGETS", "TARGETS/-TARGETS", "TARGET", "ARGETS",
		"TARGETSS", "TTARGETS", "targets", "Targets", "TARGETs", "p/targets", "TARGETSTARGETS", "TARGETS_TARGETS", "TARGETS/targets", repeat("TARGETS/", 11)+"x", repeat("TARGETS/", 11)+"TARGET")
}

func TestPutRefuses(t *testing.T) {
	m := &model{}
	c := cache.New()
	for _, full := range []bool{false, true} {
		if full {
			for i := range 512 {
				k := key{"TARGETS", "#" + strconv.Itoa(i)}
				m.put(k)
				c.Put(k.path, k.text)
			}
		}
		before, n := c.Save(), c.Len()
		try := func(k key, want api.Errno) {
			t.Helper()
			if e := c.Put(k.path, k.text); e != want {
				t.Fatalf("P19.2: Put(%.200q, %d bytes): %d, want %d", k.path, len(k.text), e, want)
			}
			hasNot(t, "P19.2", c, k)
			if c.Len() != n {
				t.Fatalf("P19.2: a refused Put(%.200q, %d bytes): Len(): %d, want %d", k.path, len(k.text), c.Len(), n)
			}
		}
		for _, p := range append(noPaths(), noManifests()...) {
			for _, s := range texts("", "target a{}", "x", "#0", repeat(" ", 4096), repeat(" ", 4097), repeat("x", 1<<16)) {
				try(key{p, s}, api.ErrPath)
			}
		}
		saves(t, "P19.2", c, before)
		for _, p := range packs() {
			for _, s := range texts(repeat(" ", 4097), repeat("x", 4097), "target a{}"+repeat(" ", 4087), repeat("#", 4098), repeat(" ", 8192), repeat("\x00", 1<<16), repeat(" ", 1<<16+10), repeat("#", 1<<20)) {
				try(key{p, s}, api.ErrText)
			}
		}
		holds(t, "P19.2", c, m)
	}
}

func TestPutTakes(t *testing.T) {
	if p := longest + "/TARGETS"; len(p) != 120 {
		t.Fatalf("%q has %d bytes", p, len(p))
	}
	for _, p := range append(packs(), "T/TARGETS", "TARGETSx/TARGETS", "..../TARGETS", "-/TARGETS", "_/a.b/TARGETS", repeat("w", 32)+"/TARGETS", repeat("TARGETS/", 11)+"TARGETS") {
		for _, s := range texts("", "x", "target a{}", repeat(" ", 4095), repeat(" ", 4096), repeat("x", 4096), "target a{}"+repeat(" ", 4086), repeat("\xff", 4096)) {
			c := cache.New()
			if e := c.Put(p, s); e != api.OK {
				t.Fatalf("P19.2: Put(%q, %d bytes): %d", p, len(s), e)
			}
			holds(t, "P19.2", c, &model{[]key{{p, s}}})
		}
	}
}

func TestPutTwice(t *testing.T) {
	keys := some()
	for i := range keys {
		for j := range keys {
			m := &model{}
			c := filled(t, keys...)
			for _, k := range append(slices.Clone(keys), keys[i], keys[j], keys[j]) {
				m.put(k)
			}
			for _, k := range []key{keys[i], keys[j], keys[j]} {
				c.Put(k.path, k.text)
			}
			if last := m.keys[len(m.keys)-1]; last != keys[j] || len(m.keys) != len(keys) {
				t.Fatal("the oracle is wrong")
			}
			holds(t, "P19.2", c, m)
		}
	}
}

func small(i int) key { return key{"p/TARGETS", "target t" + strconv.Itoa(i) + "{}"} }

func smalls(from, to int) []key {
	var l []key
	for i := from; i < to; i++ {
		l = append(l, small(i))
	}
	return l
}

func TestOneTooMany(t *testing.T) {
	all := smalls(0, 1100)
	c := filled(t, all[:512]...)
	holds(t, "P19.2", c, &model{all[:512]}, all...)
	for n := 513; n <= len(all); n++ {
		k := all[n-1]
		if e := c.Put(k.path, k.text); e != api.OK || c.Len() != 512 {
			t.Fatalf("P19.2: the %dth: %d, Len(): %d", n, e, c.Len())
		}
		has(t, "P19.2", c, k)
		has(t, "P19.2", c, all[n-512])
		hasNot(t, "P19.2", c, all[n-513])
		if n%97 == 0 || n < 516 {
			holds(t, "P19.5", c, &model{all[n-512 : n]}, all...)
		}
	}
}

// TestYoungAgain: what is put again, wherever it stands, outlives what stood behind it.
func TestYoungAgain(t *testing.T) {
	all := smalls(0, 512)
	for _, again := range []int{0, 1, 2, 255, 510, 511} {
		c, m := filled(t, all...), &model{slices.Clone(all)}
		put := func(k key) {
			c.Put(k.path, k.text)
			m.put(k)
		}
		put(all[again])
		holds(t, "P19.2", c, m)
		for i := range 511 {
			put(key{"q/TARGETS", strconv.Itoa(i)})
			has(t, "P19.2", c, all[again])
		}
		holds(t, "P19.2", c, m, all...)
		if m.keys[0] != all[again] {
			t.Fatal("the oracle is wrong")
		}
		put(key{"q/TARGETS", "last"})
		hasNot(t, "P19.2", c, all[again])
		holds(t, "P19.2", c, m, all...)
	}
}

// TestFullPutAgain: of a full cache nothing goes when what is there is put again.
func TestFullPutAgain(t *testing.T) {
	all := smalls(0, 512)
	c, m := filled(t, all...), &model{slices.Clone(all)}
	r := rand.New(rand.NewSource(1))
	for i := range 3000 {
		k := all[r.Intn(512)]
		c.Put(k.path, k.text)
		m.put(k)
		if c.Len() != 512 {
			t.Fatalf("P19.2: Len(): %d", c.Len())
		}
		if i%500 == 0 {
			holds(t, "P19.2", c, m)
		}
	}
	holds(t, "P19.2", c, m)
}

// TestLastUnlikeKeys holds P19.5's words as they stand: of all that was put, looked at from the end, the first 512 unlike keys are there.
func TestLastUnlikeKeys(t *testing.T) {
	for seed := range 6 {
		r := rand.New(rand.NewSource(int64(seed)))
		of := []int{400, 513, 600, 900, 1500, 520}[seed]
		var puts []key
		c := cache.New()
		for i := range 4000 {
			k := small(r.Intn(of))
			if r.Intn(3) == 0 {
				k.path = "q/TARGETS"
			}
			if r.Intn(3) > 0 && len(puts) > 10 {
				k = puts[len(puts)-1-r.Intn(min(len(puts), 700))]
			}
			puts = append(puts, k)
			c.Put(k.path, k.text)
			if i%800 != 799 {
				continue
			}
			last := map[key]int{}
			var want []key
			for j := len(puts) - 1; j >= 0 && len(last) < 512; j-- {
				if _, there := last[puts[j]]; !there {
					last[puts[j]] = j
					want = append(want, puts[j])
				}
			}
			slices.Reverse(want)
			holds(t, "P19.5", c, &model{want}, puts...)
		}
	}
}

// P19.3

func TestGetOfOthers(t *testing.T) {
	c := filled(t, some()...)
	m := &model{some()}
	others := []key{
		{"", full}, {"", ""}, {"p", full}, {"TARGETS", ""}, {"TARGETS", "X"}, {"TARGETS", "x "}, {"TARGETS", " x"}, {"TARGETS", "x\x00"}, {"p/TARGETS", "target a{}"}, {"q/TARGETS", "target a{} "}, {"q/TARGETS", full},
		{"q/TARGETS", ""}, {"TARGETS", "target a{}"}, {"p/TARGETS", full + " "}, {"p/TARGETS", full[1:]}, {"p/TARGETS", full[:len(full)-1]}, {"p/TARGETS", ""}, {"P/TARGETS", full}, {"p/targets", full}, {"p/TARGETS/", full},
		{"/p/TARGETS", full}, {"p//TARGETS", full}, {"p/TARGETS\x00", full}, {"p/q/TARGETS", "target a{}"}, {"q/p/TARGETS", ""}, {full, "p/TARGETS"}, {"x", "TARGETS"}, {repeat("x", 1<<20), repeat("y", 1<<20)},
	}
	for _, k := range some() {
		for i := range k.text {
			turned := []byte(k.text)
			turned[i] ^= 1
			others = append(others, key{k.path, string(turned)})
		}
	}
	holds(t, "P19.3", c, m, append(others, allKeys()...)...)
}

// TestKeysAlike: keys whose paths and texts together are the same bytes are unlike.
func TestKeysAlike(t *testing.T) {
	all := []key{{"TARGETS", "/TARGETS"}, {"TARGETS/TARGETS", ""}, {"a/TARGETS", "b"}, {"a/TARGETS", ""}, {"TARGETS", ""}, {"TARGETS", "\x00"}, {"TARGETS", "TARGETS"}, {"TARGETS", "\nTARGETS"}, {"TARGETS", "/TARGETS/TARGETS"}, {"TARGETS/TARGETS", "/TARGETS"}, {"TARGETS/TARGETS/TARGETS", ""}}
	for mask := range 1 << len(all) {
		var in []key
		for i, k := range all {
			if mask>>i&1 == 1 {
				in = append(in, k)
			}
		}
		c := filled(t, in...)
		if c.Len() != len(in) {
			t.Fatalf("P19.3: %q: Len(): %d", in, c.Len())
		}
		for i, k := range all {
			if mask>>i&1 == 1 {
				has(t, "P19.3", c, k)
			} else {
				hasNot(t, "P19.3", c, k)
			}
		}
		if mask%16 == 0 {
			judged(t, "keys alike", c.Save())
		}
	}
}

func TestGetOfWhatIsGone(t *testing.T) {
	all := smalls(0, 600)
	c := filled(t, all...)
	for i, k := range all {
		if i < 88 {
			hasNot(t, "P19.3", c, k)
		} else {
			has(t, "P19.3", c, k)
		}
	}
	c.Put(all[0].path, all[0].text)
	has(t, "P19.3", c, all[0])
	hasNot(t, "P19.3", c, all[88])
	has(t, "P19.3", c, all[89])
}

func TestGetChangesNoAge(t *testing.T) {
	all := smalls(0, 520)
	c, m := filled(t, all[:512]...), &model{slices.Clone(all[:512])}
	for i := 512; i < 520; i++ {
		for range 3 {
			has(t, "P19.3", c, m.keys[0])
			has(t, "P19.3", c, m.keys[5])
			hasNot(t, "P19.3", c, all[i])
			saves(t, "P19.3", c, m.bytes())
		}
		oldest := m.keys[0]
		c.Put(all[i].path, all[i].text)
		m.put(all[i])
		hasNot(t, "P19.3", c, oldest)
		holds(t, "P19.3", c, m, all...)
	}
}

func TestSaveAndLenChangeNothing(t *testing.T) {
	all := smalls(0, 513)
	c := filled(t, all[:512]...)
	first := c.Save()
	for range 3 {
		c.Len()
		loaded(t, "P19.4", c.Save()).Put("TARGETS", "")
		saves(t, "P19.4", c, first)
	}
	c.Put(all[512].path, all[512].text)
	holds(t, "P19.4", c, &model{all[1:]}, all...)
}

// TestGetOfManifests asks for what is written out here, not for what manifest says.
func TestGetOfManifests(t *testing.T) {
	lab := func(pkg, name string) api.Label { return api.Label{Pkg: pkg, Name: name} }
	for _, x := range []struct {
		key
		place   int
		targets []api.Target
	}{
		{key{"TARGETS", ""}, -1, nil},
		{key{"p/TARGETS", "# none"}, -1, nil},
		{key{"p/TARGETS", ";"}, 0, nil},
		{key{"p/TARGETS", "target a{"}, 9, nil},
		{key{"p/TARGETS", "target a{} target a{}"}, 18, nil},
		{key{"p/TARGETS", "target a{deps=[:b,//p:b]}"}, 18, nil},
		{key{"q/TARGETS", "target a{deps=[:b,//p:b]}"}, -1, []api.Target{{Name: "a", Deps: []api.Label{lab("q", "b"), lab("p", "b")}}}},
		{key{"TARGETS", "target a{deps=[:b,//p:b]}"}, -1, []api.Target{{Name: "a", Deps: []api.Label{lab("", "b"), lab("p", "b")}}}},
		{key{"p/q/TARGETS", "target z{see=[public]}target a{srcs=[]}"}, -1, []api.Target{{Name: "z", See: texts("public")}, {Name: "a"}}},
		{key{"TARGETS/TARGETS", "target a{deps=[:b]}"}, -1, []api.Target{{Name: "a", Deps: []api.Label{lab("TARGETS", "b")}}}},
		{key{repeat("p/", 11) + "TARGETS", "target a{srcs=[x]}"}, -1, []api.Target{{Name: "a", Srcs: texts("x")}}},
		{key{repeat("p/", 11) + "TARGETS", "target a{srcs=[x/y]}"}, 15, nil},
		{key{"p/TARGETS", repeat(" ", 4095) + "x"}, 4095, nil},
		{key{"p/TARGETS", "target a{" + repeat(" ", 4087)}, 4096, nil},
		{key{"p/TARGETS", full}, -1, []api.Target{
			{Name: "a", Srcs: texts("x.c", "d/*.h"), Deps: []api.Label{lab("p", "b"), lab("q", "c"), lab("", "e")}, See: texts("public", "//q/...")},
			{Name: "b", Deps: []api.Label{lab("p", "c")}}, {Name: "c"}, {Name: "d", Srcs: texts("*"), See: texts("//")},
		}},
	} {
		c := filled(t, x.key)
		for range 2 {
			if l, at, ok := c.Get(x.path, x.text); !ok || at != x.place || !sameTargets(l, x.targets) {
				t.Errorf("P19.3: Get(%q, %.200q): %+v, %d, %v, want %+v, %d", x.path, x.text, l, at, ok, x.targets, x.place)
			}
		}
		saves(t, "P19.4", c, bytesOf(entry{x.key, x.place, x.targets}))
		saves(t, "P19.4", loaded(t, "P19.4", c.Save()), bytesOf(entry{x.key, x.place, x.targets}))
	}
}

func TestGetAnswersTheParse(t *testing.T) {
	keys := allKeys()
	holds(t, "P19.5", filled(t, keys...), &model{keys})
	slices.Reverse(keys)
	holds(t, "P19.5", loaded(t, "P19.5", filled(t, keys...).Save()), &model{keys})
}

// P19.4

func TestSaveByteByByte(t *testing.T) {
	c := filled(t, key{"q/TARGETS", ";"}, key{"p/TARGETS", "target a{srcs=[x,*]deps=[:b,//:c]see=[public]}target d{}"})
	saves(t, "P19.4", c, []byte("\x0d\x00\x00\x00copse cache 1\x02\x00\x00\x00"+
		"\x09\x00\x00\x00q/TARGETS\x01\x00\x00\x00;\x00\x00\x00\x00\x00\x00\x00\x00\x00\x00\x00\x00"+
		"\x09\x00\x00\x00p/TARGETS\x38\x00\x00\x00target a{srcs=[x,*]deps=[:b,//:c]see=[public]}target d{}\xff\xff\xff\xff\xff\xff\xff\xff\x02\x00\x00\x00"+
		"\x01\x00\x00\x00a\x02\x00\x00\x00\x01\x00\x00\x00x\x01\x00\x00\x00*"+
		"\x02\x00\x00\x00\x01\x00\x00\x00p\x01\x00\x00\x00b\x00\x00\x00\x00\x01\x00\x00\x00c"+
		"\x01\x00\x00\x00\x06\x00\x00\x00public"+
		"\x01\x00\x00\x00d\x00\x00\x00\x00\x00\x00\x00\x00\x00\x00\x00\x00"))
	c = filled(t, key{"TARGETS", repeat(" ", 300) + ";"})
	saves(t, "P19.4", c, []byte("\x0d\x00\x00\x00copse cache 1\x01\x00\x00\x00\x07\x00\x00\x00TARGETS\x2d\x01\x00\x00"+repeat(" ", 300)+";\x2c\x01\x00\x00\x00\x00\x00\x00\x00\x00\x00\x00"))
}

// TestSaveByAges: not by paths, nor by texts, nor by when they came in first.
func TestSaveByAges(t *testing.T) {
	keys := []key{{"z/TARGETS", "b"}, {"a/TARGETS", "c"}, {"m/TARGETS", "a"}}
	for i := range 27 {
		m := &model{}
		c := cache.New()
		for _, k := range []key{keys[0], keys[1], keys[2], keys[i%3], keys[i/3%3], keys[i/9]} {
			c.Put(k.path, k.text)
			m.put(k)
			saves(t, "P19.4", c, m.bytes())
		}
	}
}

func TestLoadOfWhatWasSaved(t *testing.T) {
	keys := allKeys()
	for i := range keys {
		judged(t, "one", bytesOf(entryOf(keys[i])))
		judged(t, "two", bytesOf(entriesOf(keys[i], keys[(i+1)%len(keys)])...))
	}
	for _, n := range []int{0, 1, 2, 511, 512} {
		m := &model{smalls(0, n)}
		b := m.bytes()
		c := loaded(t, "P19.4", b)
		holds(t, "P19.4", c, m, smalls(0, 520)...)
		saves(t, "P19.5", c, b)
	}
}

// TestLoadedGoesOn: a cache and those that were loaded of what it saved, at any time, go on as one.
func TestLoadedGoesOn(t *testing.T) {
	keys := append(allKeys(), smalls(0, 500)...)
	for seed := range 4 {
		r := rand.New(rand.NewSource(int64(seed)))
		m := &model{}
		all := []*cache.Cache{cache.New()}
		for i := range 1500 {
			k := keys[r.Intn(len(keys))]
			if r.Intn(3) == 0 && len(m.keys) > 0 {
				k = m.keys[r.Intn(len(m.keys))]
			}
			if r.Intn(20) == 0 {
				k = []key{{"p/x", ""}, {"", full}, {"p/TARGETS", repeat("x", 4097)}, {"/", repeat("x", 4097)}}[r.Intn(4)]
			}
			want := m.put(k)
			for _, c := range all {
				if e := c.Put(k.path, k.text); e != want || c.Len() != len(m.keys) {
					t.Fatalf("P19.5: Put(%q, %.60q): %d, want %d; Len(): %d, want %d", k.path, k.text, e, want, c.Len(), len(m.keys))
				}
			}
			if i%300 == 150 {
				all = append(all, loaded(t, "P19.5", all[r.Intn(len(all))].Save()))
			}
			if i%500 == 499 {
				for _, c := range all {
					holds(t, "P19.5", c, m, keys...)
				}
			}
		}
	}
}

func TestLoadedOldestGoesFirst(t *testing.T) {
	all := smalls(0, 600)
	c := loaded(t, "P19.5", (&model{all[:512]}).bytes())
	for i := 512; i < 600; i++ {
		c.Put(all[i].path, all[i].text)
		hasNot(t, "P19.5", c, all[i-512])
		has(t, "P19.5", c, all[i-511])
	}
	holds(t, "P19.5", c, &model{all[88:]}, all...)
}

func TestLoadOfBeginnings(t *testing.T) {
	for _, keys := range [][]key{nil, some()[:1], some(), {{"TARGETS", ""}}, {{"TARGETS", "x"}, {"TARGETS", ""}}} {
		b := bytesOf(entriesOf(keys...)...)
		for n := range b {
			refused(t, "P19.5", "a beginning", b[:n])
			refused(t, "P19.5", "an end", b[n+1:])
			refused(t, "P19.5", "a byte gone", slices.Delete(bytes.Clone(b), n, n+1))
		}
		for more := range 256 {
			refused(t, "P19.5", "a byte more", append(bytes.Clone(b), byte(more)))
			refused(t, "P19.5", "a byte ahead", append([]byte{byte(more)}, b...))
		}
		refused(t, "P19.5", "twice", append(bytes.Clone(b), b...))
		refused(t, "P19.5", "zeros behind", append(bytes.Clone(b), make([]byte, 4096)...))
		loaded(t, "P19.5", b)
	}
	refused(t, "P19.4", "none", nil)
	refused(t, "P19.4", "none", []byte{})
	m := &model{smalls(0, 512)}
	b := m.bytes()
	for n := 0; n < len(b); n += 211 {
		refused(t, "P19.5", "a beginning", b[:n])
	}
	refused(t, "P19.5", "a beginning", b[:len(b)-1])
	refused(t, "P19.5", "a byte more", append(bytes.Clone(b), 0))
}

// TestLoadOfTurnedBytes: a turned byte may make another cache's bytes, in a path or a comment; the oracle tells.
func TestLoadOfTurnedBytes(t *testing.T) {
	good := 0
	for _, keys := range [][]key{nil, {{"p/TARGETS", "target a{}"}, {"TARGETS", "x"}}, {{"p/TARGETS", "target a{srcs=[x]deps=[:b]see=[//]}#c"}, {"q/TARGETS", ""}}, {{"p/TARGETS", full}}} {
		b := bytesOf(entriesOf(keys...)...)
		for i := range b {
			for to := range 256 {
				if byte(to) == b[i] {
					continue
				}
				turned := bytes.Clone(b)
				turned[i] = byte(to)
				if judged(t, fmt.Sprintf("byte %d turned", i), turned) {
					good++
				}
			}
		}
	}
	if good < 100 {
		t.Errorf("only %d turned ones are caches", good)
	}
	b := bytesOf(entriesOf(some()...)...)
	r := rand.New(rand.NewSource(3))
	for range 20000 {
		turned := bytes.Clone(b)
		for range 1 + r.Intn(3) {
			turned[r.Intn(len(b))] ^= 1 << r.Intn(8)
		}
		judged(t, "bits turned", turned)
	}
}

// TestLoadOfOtherKeys: what another path or text parses to just the same is another cache.
func TestLoadOfOtherKeys(t *testing.T) {
	e := entryOf(key{"p/TARGETS", "target a{deps=[:b]}"})
	e.text = "target a{deps=[//p:b]}"
	if !judged(t, "a dep written out", bytesOf(e)) {
		t.Error("P19.4: it is a cache")
	}
	e.path = "q/TARGETS"
	if !judged(t, "of another package", bytesOf(e)) {
		t.Error("P19.4: it is a cache")
	}
	e.text = "target a{deps=[:b]}"
	refused(t, "P19.4", "another package's dep", bytesOf(e))
	e = entryOf(key{"p/TARGETS", "target a{}"})
	for _, p := range packs() {
		e.path = p
		if !judged(t, "another path", bytesOf(e)) {
			t.Error("P19.4: it is a cache")
		}
	}
}

func TestLoadOfOtherHeads(t *testing.T) {
	for _, head := range texts("", "copse cache", "copse cache ", "copse cache 2", "copse cache 0", "copse cache 10", "copse cache 1 ", " copse cache 1", "Copse cache 1", "copse  cache 1", "copse cache 1\n", "copse cache 1\x00", "copse-cache 1", "copse journal 1", repeat("x", 13)) {
		for _, keys := range [][]key{nil, some()} {
			l := piecesOf(entriesOf(keys...))
			var other pieces
			other.text("head", head)
			refused(t, "P19.4", "another head", append(other, l[2:]...).laid())
			other[0].n = 13
			refused(t, "P19.4", "another head", append(other, l[2:]...).laid())
		}
	}
	refused(t, "P19.4", "without the head's length", bytesOf()[4:])
	refused(t, "P19.4", "without a head", bytesOf()[17:])
}

// numbersFor are other numbers in the place of one.
func numbersFor(p piece) []uint64 {
	l := []uint64{0, 1, 2, 3, 7, 8, 12, 13, 14, 63, 64, 65, 120, 121, 255, 256, 511, 512, 513, 4095, 4096, 4097, 1 << 16, 1<<24 - 1, math.MaxInt32 - 1, math.MaxInt32, 1 << 31, 1<<31 + 1, math.MaxUint32 - 1, math.MaxUint32}
	for by := uint64(1); by < 40; by++ {
		l = append(l, p.n+by, p.n-by)
	}
	for bit := range 8 * p.width {
		l = append(l, p.n^1<<bit)
	}
	if p.width == 8 {
		l = append(l, 1<<32, math.MaxInt64, math.MaxInt64-1, 1<<63, 1<<63+1, math.MaxUint64, math.MaxUint64-1, math.MaxUint64-4096)
	}
	all := l[:0]
	for _, n := range l {
		if p.width == 4 {
			n &= math.MaxUint32
		}
		if n != p.n {
			all = append(all, n)
		}
	}
	return all
}

func TestLoadOfOtherNumbers(t *testing.T) {
	asked := map[string]int{}
	for _, keys := range [][]key{nil, some(), {{"TARGETS", ""}}, {{"p/TARGETS", full}}} {
		l := piecesOf(entriesOf(keys...))
		for i, p := range l {
			if p.width == 0 {
				continue
			}
			for _, n := range numbersFor(p) {
				other := slices.Clone(l)
				other[i].n = n
				asked[p.what]++
				refused(t, "P19.4", fmt.Sprintf("the %s is %d, not %d", p.what, n, p.n), other.laid())
				if n > 1<<16 { // and with nothing behind it, or much
					refused(t, "P19.4", "and no more", other[:i+1].laid())
					refused(t, "P19.4", "and zeros", append(other[:i+1].laid(), make([]byte, 5000)...))
				}
			}
		}
	}
	for _, what := range texts("length of head", "number of entries", "length of path", "length of text", "place", "number of targets", "length of name", "number of sources", "length of source", "number of deps", "length of dep's package", "length of dep's name", "number of seers", "length of seer") {
		if asked[what] < 50 {
			t.Errorf("the %s was asked for %d times", what, asked[what])
		}
	}
}

// TestLoadOfOtherTexts: each text beside the key is another one, its length with it.
func TestLoadOfOtherTexts(t *testing.T) {
	l := piecesOf(entriesOf(some()...))
	for i, p := range l {
		if p.width != 0 || p.what == "path" || p.what == "text" {
			continue
		}
		for _, s := range texts("", "a", "z", "A", p.bytes+"a", "a"+p.bytes, p.bytes+"\x00", p.bytes+p.bytes, strings.ToUpper(p.bytes), repeat("x", 5000), p.bytes[:len(p.bytes)/2]) {
			if s == p.bytes {
				continue
			}
			other := slices.Clone(l)
			other[i].bytes, other[i-1].n = s, uint64(len(s))
			refused(t, "P19.4", "another "+p.what, other.laid())
		}
	}
}

// TestLoadOfOtherEntries: an entry says something else than the parse of its text.
func TestLoadOfOtherEntries(t *testing.T) {
	good := entriesOf(some()...)
	at := func(l []entry) *api.Target { return &l[0].targets[0] }
	for what, turn := range map[string]func(l []entry){
		"place 0":               func(l []entry) { l[0].place = 0 },
		"place -2":              func(l []entry) { l[0].place = -2 },
		"place 4096":            func(l []entry) { l[0].place = 4096 },
		"least place":           func(l []entry) { l[0].place = math.MinInt64 },
		"no fault":              func(l []entry) { l[1].place = -1 },
		"another fault":         func(l []entry) { l[1].place = 1 },
		"a fault and a target":  func(l []entry) { l[1].targets = []api.Target{{Name: "x"}} },
		"a fault at the end":    func(l []entry) { l[4].place = 0 },
		"no targets":            func(l []entry) { l[0].targets = nil },
		"faulty":                func(l []entry) { l[0].targets, l[0].place = nil, 0 },
		"one target less":       func(l []entry) { l[0].targets = l[0].targets[:3] },
		"first target gone":     func(l []entry) { l[0].targets = l[0].targets[1:] },
		"one target more":       func(l []entry) { l[0].targets = append(l[0].targets, api.Target{Name: "e"}) },
		"a target twice":        func(l []entry) { l[0].targets = append(l[0].targets, l[0].targets[3]) },
		"targets turned":        func(l []entry) { slices.Reverse(l[0].targets) },
		"a target of none":      func(l []entry) { l[4].targets = []api.Target{{}} },
		"another name":          func(l []entry) { at(l).Name = "b" },
		"no name":               func(l []entry) { at(l).Name = "" },
		"last name":             func(l []entry) { l[0].targets[3].Name = "D" },
		"no sources":            func(l []entry) { at(l).Srcs = nil },
		"one source less":       func(l []entry) { at(l).Srcs = at(l).Srcs[:1] },
		"one source more":       func(l []entry) { at(l).Srcs = append(at(l).Srcs, "y") },
		"a source twice":        func(l []entry) { at(l).Srcs = append(at(l).Srcs, "x.c") },
		"sources turned":        func(l []entry) { slices.Reverse(at(l).Srcs) },
		"another source":        func(l []entry) { at(l).Srcs[0] = "x.h" },
		"a source written out":  func(l []entry) { at(l).Srcs[0] = "p/x.c" },
		"sources of none":       func(l []entry) { l[0].targets[2].Srcs = texts("x") },
		"no deps":               func(l []entry) { at(l).Deps = nil },
		"one dep less":          func(l []entry) { at(l).Deps = at(l).Deps[:2] },
		"one dep more":          func(l []entry) { at(l).Deps = append(at(l).Deps, api.Label{Pkg: "p", Name: "z"}) },
		"a dep twice":           func(l []entry) { at(l).Deps = append(at(l).Deps, at(l).Deps[0]) },
		"deps turned":           func(l []entry) { slices.Reverse(at(l).Deps) },
		"a dep of another":      func(l []entry) { at(l).Deps[0].Pkg = "q" },
		"a dep of the root":     func(l []entry) { at(l).Deps[0].Pkg = "" },
		"another dep":           func(l []entry) { at(l).Deps[0].Name = "c" },
		"a dep as it's written": func(l []entry) { at(l).Deps[0] = api.Label{Name: ":b"} },
		"a dep's parts turned":  func(l []entry) { at(l).Deps[0] = api.Label{Pkg: "b", Name: "p"} },
		"deps of none":          func(l []entry) { l[0].targets[2].Deps = []api.Label{{Pkg: "p", Name: "a"}} },
		"no seers":              func(l []entry) { at(l).See = nil },
		"one seer less":         func(l []entry) { at(l).See = at(l).See[:1] },
		"one seer more":         func(l []entry) { at(l).See = append(at(l).See, "//") },
		"a seer twice":          func(l []entry) { at(l).See = append(at(l).See, "public") },
		"seers turned":          func(l []entry) { slices.Reverse(at(l).See) },
		"another seer":          func(l []entry) { at(l).See[0] = "//..." },
		"seers of none":         func(l []entry) { l[0].targets[2].See = texts("public") },
		"seers as sources":      func(l []entry) { at(l).Srcs, at(l).See = at(l).See, at(l).Srcs },
		"what another says":     func(l []entry) { l[2].targets = l[0].targets },
		"two say each other's":  func(l []entry) { l[0].targets, l[5].targets = l[5].targets, l[0].targets },
		"another text":          func(l []entry) { l[0].text = "target a{}" },
		"no text":               func(l []entry) { l[0].text = "" },
		"another package":       func(l []entry) { l[0].path = "q/TARGETS" },
	} {
		l := deepEntries(good)
		turn(l)
		if _, ok := scanned(bytesOf(l...)); ok {
			t.Errorf("%s: the oracle takes it", what)
		}
		refused(t, "P19.4", what, bytesOf(l...))
	}
	judged(t, "none turned", bytesOf(deepEntries(good)...))
}

// TestLoadOfOtherPaths: what stands beside the path is the parse, as far as there is one.
func TestLoadOfOtherPaths(t *testing.T) {
	for _, p := range append(noPaths(), noManifests()...) {
		dir := ""
		if at := strings.LastIndex(p, "/"); at >= 0 {
			dir = p[:at]
		}
		for _, s := range texts("", "target a{}", "x") {
			targets, place := manifest.Parse(dir, s)
			e := entry{key{p, s}, place, targets}
			refused(t, "P19.4", "a path that is no manifest's", bytesOf(e))
			refused(t, "P19.4", "a path that is no manifest's", bytesOf(entryOf(some()[0]), e, entryOf(some()[1])))
			e.targets, e.place = nil, -1
			refused(t, "P19.4", "a path that is no manifest's", bytesOf(e))
		}
	}
}

func TestLoadOfLongTexts(t *testing.T) {
	for _, n := range []int{4097, 4098, 5000, 1 << 16, 1 << 20} {
		for _, fill := range texts(" ", "#", "x") {
			for _, place := range []int{-1, 0, 4096, n} {
				refused(t, "P19.4", "a long text", bytesOf(entry{key{"TARGETS", repeat(fill, n)}, place, nil}))
			}
		}
	}
	for _, fill := range texts(" ", "#", "x") {
		judged(t, "just short enough", bytesOf(entryOf(key{"TARGETS", repeat(fill, 4096)})))
	}
	refused(t, "P19.4", "a long text", bytesOf(entry{key{"TARGETS", "target a{}" + repeat(" ", 4087)}, -1, []api.Target{{Name: "a"}}}))
}

func TestLoadOfKeysTwice(t *testing.T) {
	keys := some()
	for i := range keys {
		for at := range len(keys) + 1 {
			twice := slices.Insert(slices.Clone(keys), at, keys[i])
			refused(t, "P19.4", "a key twice", bytesOf(entriesOf(twice...)...))
		}
	}
	refused(t, "P19.4", "a key twice", bytesOf(entriesOf(small(0), small(0))...))
	all := append(smalls(0, 511), small(0))
	refused(t, "P19.4", "a key twice among many", bytesOf(entriesOf(all...)...))
	all[511] = small(510)
	refused(t, "P19.4", "a key twice among many", bytesOf(entriesOf(all...)...))
}

func TestLoadOfTooMany(t *testing.T) {
	for _, n := range []int{513, 514, 600, 1024, 1025} {
		refused(t, "P19.4", "too many", bytesOf(entriesOf(smalls(0, n)...)...))
	}
	all := append(smalls(0, 512), small(0))
	refused(t, "P19.4", "too many, one of them twice", bytesOf(entriesOf(all...)...))
	loaded(t, "P19.4", bytesOf(entriesOf(all[:512]...)...))
	l := piecesOf(entriesOf(smalls(0, 513)...))
	l[2].n = 512
	refused(t, "P19.4", "one more than is said", l.laid())
	l = piecesOf(entriesOf(smalls(0, 512)...))
	l[2].n = 513
	refused(t, "P19.4", "one less than is said", l.laid())
}

// TestLoadOfAnything: whatever the bytes are, Load ends, and answers as the oracle does.
func TestLoadOfAnything(t *testing.T) {
	r := rand.New(rand.NewSource(5))
	keys := allKeys()
	good := 0
	for range 6000 {
		var in []key
		for range r.Intn(4) {
			in = append(in, keys[r.Intn(len(keys))])
		}
		l := piecesOf(entriesOf(in...))
		for range r.Intn(3) {
			i, j := r.Intn(len(l)), r.Intn(len(l))
			switch r.Intn(4) {
			case 0:
				l[i], l[j] = l[j], l[i]
			case 1:
				l = slices.Delete(l, i, i+1)
			case 2:
				l = slices.Insert(l, i, l[j])
			default:
				l[i].n = uint64(r.Intn(5))
			}
		}
		if judged(t, "pieces moved", l.laid()) {
			good++
		}
	}
	if good < 500 || good > 5500 {
		t.Errorf("%d of 6000 are caches", good)
	}
	for range 3000 {
		b := make([]byte, r.Intn(60))
		r.Read(b)
		judged(t, "drawn", b)
		judged(t, "drawn behind the head", append(bytesOf()[:17], b...))
		judged(t, "drawn behind a number", append(append(bytesOf()[:17], byte(1+r.Intn(3)), 0, 0, 0), b...))
	}
}

// TestGreatest: the most bytes that a cache has come and go in a moment.
func TestGreatest(t *testing.T) {
	var m model
	for i := range 512 {
		text := "#" + strconv.Itoa(i) + "\n"
		for n := 0; len(text) < 3800; n++ {
			text += "target " + strconv.Itoa(n) + "{deps=["
			for d := range 64 {
				text += ":" + strconv.FormatInt(int64(d), 36) + ","
			}
			text = strings.TrimSuffix(text, ",") + "]}"
		}
		m.put(key{longest + "/TARGETS", text})
	}
	c := filled(t, m.keys...)
	b := c.Save()
	if len(b) < 50<<20 {
		t.Errorf("%d bytes are too few for this test", len(b))
	}
	if !bytes.Equal(b, m.bytes()) || !bytes.Equal(loaded(t, "P19.4", b).Save(), b) {
		t.Error("P19.4: a great cache's bytes are others")
	}
	b[len(b)-5] ^= 1
	if d, e := cache.Load(b); d != nil || e != api.ErrCache {
		t.Errorf("P19.4: the last byte but four turned: %d", e)
	}
}

// P19.6

// marked writes over a list, all of its room.
func marked[T any](l []T, mark T) {
	for i := range l[:cap(l)] {
		l[:cap(l)][i] = mark
	}
}

// harmed writes over all lists of an answer.
func harmed(l []api.Target) {
	for _, t := range l {
		marked(t.Srcs, "harm")
		marked(t.Deps, api.Label{Pkg: "harm", Name: "harm"})
		marked(t.See, "harm")
	}
	marked(l, api.Target{Name: "harm", Srcs: texts("harm")})
}

// lengthened appends to all lists of an answer, and writes over what there is then.
func lengthened(l []api.Target) {
	for i := range l {
		l[i].Srcs = append(l[i].Srcs, "more")
		l[i].Deps = append(l[i].Deps, api.Label{Pkg: "more"})
		l[i].See = append(l[i].See, "more")
	}
	harmed(append(l, api.Target{Name: "more"}))
}

func TestGetIsNewMemory(t *testing.T) {
	keys := allKeys()
	c, m := filled(t, keys...), &model{keys}
	d := loaded(t, "P19.6", c.Save())
	for _, k := range keys {
		first, _, _ := c.Get(k.path, k.text)
		second, _, _ := c.Get(k.path, k.text)
		third, _, _ := d.Get(k.path, k.text)
		want := entryOf(k).targets
		harmed(first)
		if !sameTargets(second, want) || !sameTargets(third, want) {
			t.Fatalf("P19.6: two answers share memory: %+v, %+v", second, third)
		}
		has(t, "P19.6", c, k)
		lengthened(second)
		has(t, "P19.6", c, k)
		lengthened(third)
		has(t, "P19.6", d, k)
	}
	holds(t, "P19.6", c, m)
	holds(t, "P19.6", d, m)
}

// TestGetsListsShareNothing writes over each list of an answer in turn, its room too, and looks at all others.
func TestGetsListsShareNothing(t *testing.T) {
	for _, k := range []key{{"p/TARGETS", full}, {"TARGETS", full}, {"p/TARGETS", "target a{srcs=[x,y,z]deps=[:x,:y,:z]see=[//x,//y,//z]}target b{srcs=[x,y,z]deps=[:x,:y,:z]see=[//x,//y,//z]}target c{}"}, {"p/TARGETS", manifests()[10]}} {
		c := filled(t, k)
		first, _, _ := c.Get(k.path, k.text)
		for i := range first {
			for part := range 6 {
				l, _, _ := c.Get(k.path, k.text)
				want := deep(l)
				switch part {
				case 0:
					marked(l[i].Srcs, "harm")
					l[i].Srcs, want[i].Srcs = nil, nil
				case 1:
					marked(l[i].Deps, api.Label{Pkg: "harm"})
					l[i].Deps, want[i].Deps = nil, nil
				case 2:
					marked(l[i].See, "harm")
					l[i].See, want[i].See = nil, nil
				case 3:
					marked(append(l[i].Srcs, "more"), "harm")
					l[i].Srcs, want[i].Srcs = nil, nil
				case 4:
					marked(append(l[i].Deps, api.Label{Pkg: "more"}), api.Label{Pkg: "harm"})
					l[i].Deps, want[i].Deps = nil, nil
				default:
					marked(append(l[i].See, "more"), "harm")
					l[i].See, want[i].See = nil, nil
				}
				if !sameTargets(l, want) {
					t.Fatalf("P19.6: two lists of an answer share memory: %+v, want %+v", l, want)
				}
			}
		}
		has(t, "P19.6", c, k)
	}
}

func TestSaveIsNewMemory(t *testing.T) {
	for _, keys := range [][]key{nil, some(), allKeys()} {
		c, m := filled(t, keys...), &model{keys}
		first, second := c.Save(), c.Save()
		marked(first, 0xaa)
		if !bytes.Equal(second, m.bytes()) {
			t.Fatal("P19.6: two answers share memory")
		}
		holds(t, "P19.6", c, m)
		marked(append(second, 1), 0xbb)
		holds(t, "P19.6", c, m)
		third := c.Save()
		c.Put("z/TARGETS", "z")
		if !bytes.Equal(third, m.bytes()) {
			t.Fatal("P19.6: a Put writes into what Save answered")
		}
	}
}

// roomy lays bytes into a greater room, with others ahead and behind.
func roomy(b []byte) (in, room []byte) {
	room = bytes.Repeat([]byte{0xcc}, len(b)+200)
	copy(room[100:], b)
	return room[100 : 100+len(b)], room
}

func TestLoadKeepsNothing(t *testing.T) {
	for _, keys := range [][]key{nil, some(), allKeys()} {
		m := &model{slices.Clone(keys)}
		in, room := roomy(m.bytes())
		before := bytes.Clone(room)
		c := loaded(t, "P19.6", in)
		if !bytes.Equal(room, before) {
			t.Fatal("P19.6: Load changes what it is handed")
		}
		marked(room, 0xdd)
		holds(t, "P19.6", c, m)
		before = bytes.Clone(room)
		c.Put("z/TARGETS", "target z{}")
		m.put(key{"z/TARGETS", "target z{}"})
		got, _, _ := c.Get("z/TARGETS", "target z{}")
		lengthened(got)
		marked(append(c.Save(), 1), 0xee)
		if !bytes.Equal(room, before) {
			t.Fatal("P19.6: a cache writes into what Load was handed")
		}
		holds(t, "P19.6", c, m)
	}
	good := bytesOf(entriesOf(some()...)...)
	for n := range good {
		in, room := roomy(good[:n]) // the spare room isn't read: what is behind it would make a whole cache
		copy(room[100:], good)
		before := bytes.Clone(room)
		refused(t, "P19.6", "a beginning with the rest in its spare room", in)
		if !bytes.Equal(room, before) {
			t.Fatal("P19.6: Load changes what it is handed")
		}
	}
}

func TestCachesShareNothing(t *testing.T) {
	b := bytesOf(entriesOf(some()...)...)
	base := loaded(t, "P19.6", b)
	all := []*cache.Cache{base, cache.New(), cache.New(), loaded(t, "P19.6", b), loaded(t, "P19.6", b), loaded(t, "P19.6", base.Save())}
	models := []*model{{some()}, {}, {}, {some()}, {some()}, {some()}}
	keys := append(allKeys(), smalls(0, 600)...)
	r := rand.New(rand.NewSource(7))
	for i := range 6000 {
		at := r.Intn(len(all))
		k := keys[r.Intn(len(keys))]
		if r.Intn(3) == 0 && len(models[at].keys) > 0 {
			k = models[at].keys[0]
		}
		if got, want := all[at].Put(k.path, k.text), models[at].put(k); got != want {
			t.Fatalf("P19.6: Put: %d, want %d", got, want)
		}
		if l, _, ok := all[at].Get(k.path, k.text); ok {
			harmed(l)
		}
		if i%1500 == 0 || i < 5 {
			for j, c := range all {
				holds(t, "P19.6", c, models[j], keys...)
			}
		}
	}
	for j, c := range all {
		holds(t, "P19.6", c, models[j], keys...)
	}
}

// TestSameCallsSameAnswers: an answer hangs on what was done to the cache alone.
func TestSameCallsSameAnswers(t *testing.T) {
	keys := allKeys()
	want := filled(t, keys...).Save()
	for range 3 {
		c := cache.New()
		for i, k := range keys {
			c.Put(k.path, k.text)
			c.Put(k.path, "\x00"+repeat("x", 4096))
			c.Put("x", k.text)
			c.Get(k.path, "")
			c.Get(keys[(i*7)%len(keys)].path, keys[(i*7)%len(keys)].text)
			cache.Load(want[:i])
		}
		saves(t, "P19.5", c, want)
	}
}
