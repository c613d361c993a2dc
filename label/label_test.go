package label_test

import (
	"math/rand"
	"regexp"
	"slices"
	"strings"
	"testing"

	"copse/api"
	"copse/label"
)

func lab(pkg, name string) api.Label { return api.Label{Pkg: pkg, Name: name} }

func repeat(s string, n int) string { return strings.Repeat(s, n) }

// pathOf is a path of n pieces, longPath one of n bytes (at least 92) in four.
func pathOf(n int) string { return strings.TrimSuffix(repeat("a/", n), "/") }

func longPath(n int) string { return repeat("a", n-90) + repeat("/"+repeat("b", 29), 3) }

// words are all texts of at most so many of the parts.
func words(most int, parts ...string) []string {
	l := []string{""}
	for from := 0; most > 0; most-- {
		to := len(l)
		for _, s := range l[from:to] {
			for _, p := range parts {
				l = append(l, s+p)
			}
		}
		from = to
	}
	return l
}

// The oracle: the chapter's words, by regular expressions and by writing down
// all see words that name a package.

var component = regexp.MustCompile(`\A[a-zA-Z0-9._-]{1,32}\z`)

func goodName(s string) bool {
	return component.MatchString(s) && !slices.Contains([]string{".", "..", "..."}, s)
}

func pieces(p string) []string {
	if p == "" {
		return nil
	}
	return strings.Split(p, "/")
}

func goodPath(p string) bool {
	for _, c := range pieces(p) {
		if !goodName(c) {
			return false
		}
	}
	return len(p) <= 120 && len(pieces(p)) <= 12
}

// parsed tries each place at which a text may be parted.
func parsed(s string) (api.Label, api.Errno) {
	for i := range len(s) {
		for k := range i + 1 {
			l := lab(s[k:i], s[i+1:])
			if s == "//"+l.Pkg+":"+l.Name && goodPath(l.Pkg) && goodName(l.Name) {
				return l, api.OK
			}
		}
	}
	return api.Label{}, api.ErrLabel
}

func order(a, b api.Label) int {
	if c := slices.Compare(pieces(a.Pkg), pieces(b.Pkg)); c != 0 {
		return c
	}
	return slices.Compare([]byte(a.Name), []byte(b.Name))
}

// namers are all see words that name a package, whatever text that is.
func namers(pkg string) []string {
	l := []string{"public", "//..."}
	if goodPath(pkg) {
		l = append(l, "//"+pkg)
	}
	all := pieces(pkg)
	for n := 1; n <= len(all); n++ {
		p := strings.Join(all[:n], "/")
		if p != "" && goodPath(p) {
			l = append(l, "//"+p+"/...")
		}
	}
	return l
}

func seen(see []string, own, from string) bool {
	named := namers(from)
	for _, s := range see {
		if slices.Contains(named, s) {
			return true
		}
	}
	return own == from
}

// seeWord asks of each part of a text whether it is named by the text.
func seeWord(s string) bool {
	for i := range len(s) + 1 {
		for k := range i + 1 {
			if slices.Contains(namers(s[k:i]), s) {
				return true
			}
		}
	}
	return false
}

func checkParse(t *testing.T, s string, want api.Label, e api.Errno) {
	t.Helper()
	if l, got := label.Parse(s); l != want || got != e {
		t.Errorf("P7.1: Parse(%q) = %q, %d, want %q, %d", s, l, got, want, e)
	}
}

func checkIn(t *testing.T, pkg, s string, want api.Label, e api.Errno) {
	t.Helper()
	if l, got := label.In(pkg, s); l != want || got != e {
		t.Errorf("P7.2: In(%q, %q) = %q, %d, want %q, %d", pkg, s, l, got, want, e)
	}
}

func checkSees(t *testing.T, see []string, own, from string, want bool) {
	t.Helper()
	if label.Sees(see, own, from) != want {
		t.Errorf("P7.4: Sees(%q, %q, %q) = %v", see, own, from, !want)
	}
}

// mayBe are labels that may be, one for each text.
func mayBe() map[string]api.Label {
	return map[string]api.Label{
		"//a/b:n":                     lab("a/b", "n"),
		"//:n":                        lab("", "n"),
		"//:TARGETS":                  lab("", "TARGETS"),
		"//a.b-C_9/Z:....":            lab("a.b-C_9/Z", "...."),
		"//..a/.b/c.:.-_":             lab("..a/.b/c.", ".-_"),
		"//public:public":             lab("public", "public"),
		"//" + pathOf(12) + ":n":      lab(pathOf(12), "n"),
		"//" + longPath(120) + ":n":   lab(longPath(120), "n"),
		"//a:" + repeat("z", 32):      lab("a", repeat("z", 32)),
		"//" + repeat("z", 32) + ":9": lab(repeat("z", 32), "9"),
	}
}

// mayNotBe are labels that may not be.
func mayNotBe() []api.Label {
	return []api.Label{
		{}, lab("a", ""), lab("", ""), lab("a/", "n"), lab("/a", "n"), lab("/", "n"),
		lab("//a", "n"), lab("a//b", "n"), lab(".", "n"), lab("..", "n"), lab("...", "n"),
		lab("a/../b", "n"), lab("a/...", "n"), lab("a b", "n"), lab("a:b", "n"), lab("a\x00", "n"),
		lab("ä", "n"), lab("a", "ä"), lab("a", "."), lab("a", ".."), lab("a", "..."),
		lab("a", "b/c"), lab("a", "/"), lab("a", "b:c"), lab("a", ":"), lab("a", "n "),
		lab("a", "\xff"), lab("a", "n\n"), lab("a\n", "n"), lab("a", "*"), lab("", "//a:n"),
		lab(pathOf(13), "n"), lab(longPath(121), "n"), lab(repeat("z", 33), "n"),
		lab("a", repeat("z", 33)), lab("?", ""),
	}
}

func TestExample1(t *testing.T) {
	if s := label.Print(lab("a/b", "n")); s != "//a/b:n" {
		t.Errorf("P7.1: Print = %q", s)
	}
	if s := label.Print(lab("", "n")); s != "//:n" {
		t.Errorf("P7.1: Print = %q", s)
	}
	checkParse(t, "//:n", lab("", "n"), api.OK)
	for _, s := range []string{"/a:n", "//a", "//a:", "//a:b:c", "//a/:n", "//a:b/c", "//..:n", ""} {
		checkParse(t, s, api.Label{}, api.ErrLabel)
	}
}

func TestLabelsThatMayBe(t *testing.T) {
	for s, l := range mayBe() {
		if !label.Valid(l) {
			t.Errorf("P7.1: Valid(%q) = false", l)
		}
		if label.Print(l) != s {
			t.Errorf("P7.1: Print(%q) = %q, want %q", l, label.Print(l), s)
		}
		checkParse(t, s, l, api.OK)
	}
}

func TestLabelsThatMayNotBe(t *testing.T) {
	for _, l := range mayNotBe() {
		if label.Valid(l) {
			t.Errorf("P7.1: Valid(%q) = true", l)
		}
		s := "//" + l.Pkg + ":" + l.Name
		if label.Print(l) != s {
			t.Errorf("P7.1: Print(%q) = %q, want %q", l, label.Print(l), s)
		}
		checkParse(t, s, api.Label{}, api.ErrLabel)
	}
}

func TestTextsThatAreNoLabels(t *testing.T) {
	for _, s := range []string{
		"/", "//", "///", "//:", ":n", ":", "n", "a:n", "a/b:n", "/a/b:n", "///a:n", "////a:n", "///:n",
		" //a:n", "//a:n ", "//a: n", "//a :n", "//a::n", "//a:n:", "://a:n", "//a/b", "//a/:", "//a//b:n",
		"//a:n/", "//a:/n", "//./a:n", "//a/..:n", "//...:n", "//a/...:n", "//a/...", "//...", "public",
		"//a:..", "//a:...", "//a:.", "\\\\a:n", "//a;n", "//a:n\n", "//a\n:n", "//a:n\x00", "//ä:n", "//a:\xc3",
		"//" + pathOf(13) + ":n", "//" + longPath(121) + ":n", "//a:" + repeat("n", 33), "//" + repeat("z", 33) + ":n",
		"//a:n//a:n", repeat("//a:n", 1000), "//" + repeat("a/", 100000) + "a:n", "//a:" + repeat("n", 100000),
	} {
		checkParse(t, s, api.Label{}, api.ErrLabel)
	}
}

func TestOneByteOfALabel(t *testing.T) {
	for c := range 256 {
		s := string([]byte{byte(c)})
		want := goodName(s)
		if label.Valid(lab("a", s)) != want || label.Valid(lab(s, "a")) != want || label.Valid(lab("a"+s, "a")) != (want || s == ".") {
			t.Errorf("P7.1: Valid of a label with the byte %q", s)
		}
		for _, text := range []string{"//a:" + s, "//a:b" + s, "//" + s + ":a", "//a" + s + ":a", s + "//a:b", "/" + s + "a:b"} {
			l, e := parsed(text)
			checkParse(t, text, l, e)
		}
	}
}

func TestParseOfAllShortTexts(t *testing.T) {
	labels := 0
	for _, s := range append(words(6, "/", ":", ".", "a"), words(5, "//", "/", ":", "...", "bc")...) {
		for _, s := range []string{s, "//" + s} {
			l, e := parsed(s)
			checkParse(t, s, l, e)
			if e == api.OK {
				labels++
			}
		}
	}
	if labels < 100 {
		t.Errorf("the texts have only %d labels", labels)
	}
}

func TestValidIsPathAndComponent(t *testing.T) {
	for _, pkg := range words(4, "/", ".", "a", ":") {
		for _, name := range words(3, "/", ".", "a", ":") {
			l := lab(pkg, name)
			if label.Valid(l) != (goodPath(pkg) && goodName(name)) {
				t.Errorf("P7.1: Valid(%q) = %v", l, label.Valid(l))
			}
			if s := label.Print(l); s != "//"+pkg+":"+name {
				t.Errorf("P7.1: Print(%q) = %q", l, s)
			}
		}
	}
}

func TestExample2(t *testing.T) {
	checkIn(t, "a", ":n", lab("a", "n"), api.OK)
	checkIn(t, "a", "//b:m", lab("b", "m"), api.OK)
	checkIn(t, "a", ":", api.Label{}, api.ErrLabel)
	checkIn(t, "a", "n", api.Label{}, api.ErrLabel)
	checkIn(t, "a//b", "//c:n", api.Label{}, api.ErrPath)
}

func TestIn(t *testing.T) {
	for _, pkg := range []string{"", "a", "a/b", pathOf(12), longPath(120)} {
		checkIn(t, pkg, ":n", lab(pkg, "n"), api.OK)
		checkIn(t, pkg, ":"+repeat("n", 32), lab(pkg, repeat("n", 32)), api.OK)
		checkIn(t, pkg, "//:n", lab("", "n"), api.OK)
		checkIn(t, pkg, "//b/c:n", lab("b/c", "n"), api.OK)
		for _, s := range []string{
			"", ":", "::n", ":n:", ":n:m", ":n/m", ":/n", ":.", ":..", ":...", ":n ", ": n", ":ä", ":" + repeat("n", 33), "://b:n", ":b:n",
			"n", "b:n", "/:n", "/b:n", "//b", "//b:", "//b/:n", " :n", "///:n", "public", "//b:n:m", "//..:n",
		} {
			checkIn(t, pkg, s, api.Label{}, api.ErrLabel)
		}
	}
}

func TestInNamesTheFirstError(t *testing.T) {
	for _, pkg := range []string{"/", "/a", "a/", "a//b", "//a", "//", ".", "..", "...", "a/../b", "a b", "a:", ":", "ä", pathOf(13), longPath(121), repeat("z", 33)} {
		for _, s := range []string{"", ":n", ":", "n", "//c:n", "//:n", "//c", ":a/b"} {
			checkIn(t, pkg, s, api.Label{}, api.ErrPath)
		}
	}
}

func TestInOfAllShortTexts(t *testing.T) {
	for _, pkg := range []string{"", "a", "b/a", "a/", "..", "/"} {
		for _, s := range words(5, "//", "/", ":", ".", "a") {
			l, e := parsed(s)
			if strings.HasPrefix(s, ":") {
				l, e = parsed("//" + pkg + s)
			}
			if !goodPath(pkg) {
				l, e = api.Label{}, api.ErrPath
			}
			checkIn(t, pkg, s, l, e)
		}
	}
}

func TestExample3(t *testing.T) {
	if c := label.Cmp(lab("a", "z"), lab("a/b", "a")); c != -1 {
		t.Errorf("P7.3: Cmp = %d, want -1", c)
	}
	if c := label.Cmp(lab("b", "a"), lab("a/b", "z")); c != 1 {
		t.Errorf("P7.3: Cmp = %d, want 1", c)
	}
}

// risingLabels rise, those that may not be among them.
func risingLabels() []api.Label {
	return []api.Label{
		lab("", ""), lab("", "a"), lab("", "a/b"), lab("", "z"), lab("", "\xff"),
		lab("/", ""), lab("/", "z"), lab("-", "a"), lab(".", "."), lab("A", "z"), lab("a", ""),
		lab("a", "-"), lab("a", "."), lab("a", "/"), lab("a", "A"), lab("a", "_"), lab("a", "a"),
		lab("a", "a-"), lab("a", "a/"), lab("a", "aa"), lab("a", "b"), lab("a", "z"), lab("a", "ä"),
		lab("a/", "a"), lab("a/a", "z"), lab("a/b", "a"), lab("a/b", "b"), lab("a/b/c", "a"),
		lab("a-b", "a"), lab("a.b", "a"), lab("aa", "A"), lab("b", "a"), lab("ä", "a"), lab("\xff", "a"),
	}
}

func TestCmp(t *testing.T) {
	l := risingLabels()
	for i, a := range l {
		for k, b := range l {
			want := max(-1, min(1, i-k))
			if c := label.Cmp(a, b); c != want {
				t.Errorf("P7.3: Cmp(%q, %q) = %d, want %d", a, b, c, want)
			}
		}
	}
}

func TestCmpOfAllShortLabels(t *testing.T) {
	var l []api.Label
	for _, pkg := range words(3, "/", "-", "a") {
		for _, name := range words(2, "/", "a") {
			l = append(l, lab(pkg, name))
		}
	}
	for _, a := range l {
		for _, b := range l {
			if c := label.Cmp(a, b); c != order(a, b) {
				t.Errorf("P7.3: Cmp(%q, %q) = %d, want %d", a, b, c, order(a, b))
			}
		}
	}
}

func TestExample4(t *testing.T) {
	for _, s := range []string{"public", "//", "//a", "//a/b/...", "//..."} {
		if !label.Seer(s) {
			t.Errorf("P7.4: Seer(%q) = false", s)
		}
	}
	for _, s := range []string{"", "a", "/", "//a/", "//a:b", "//a/../...", "///...", "Public"} {
		if label.Seer(s) {
			t.Errorf("P7.4: Seer(%q) = true", s)
		}
	}
}

// seers are see words of each kind, notSeers are none.
func seers() []string {
	return []string{
		"public", "//", "//...", "//a", "//a/...", "//a/b", "//a/b/...", "//ab", "//ab/...", "//public", "//public/...",
		"//....", "//..../...", "//a/....", "//TARGETS", "//a./...", "//.a/....../...",
		"//" + pathOf(12), "//" + pathOf(12) + "/...", "//" + longPath(120), "//" + longPath(120) + "/...",
		"//" + repeat("z", 32), "//" + repeat("z", 32) + "/...",
	}
}

func notSeers() []string {
	return []string{
		"", "a", "/", "//a/", "//a:b", "//a/../...", "///...", "Public", "PUBLIC", "publi", "public ", " public", "public/...", "publica", "/public",
		"...", "/...", "/a/...", "a/...", "///", "///a", "///a/...", "////...", "//...a/b:c", "//.../...", "//.../", "//.../a", "//.", "//..", "//./...", "//../...",
		"//a...:", "//a//...", "//a/.../...", "//a/.../b", "//a//b", "//a/./b", "//a/ /...", "//a b", "//a/..", "//a/.", "//a/.../", "//:", "//:n", "//a:...", "//*", "//a/*",
		"//ä", "//\xff/...", "//a\n", "//a/...\n", "//a\x00", "a//", "a//...", "//public:", "//a//", "\\\\a",
		"//" + pathOf(13), "//" + pathOf(13) + "/...", "//" + longPath(121), "//" + longPath(121) + "/...",
		"//" + repeat("z", 33), "//" + repeat("z", 33) + "/...", "//" + repeat("a/", 100000) + "...", repeat("/", 100000), "//" + repeat("a", 100000),
	}
}

func TestSeer(t *testing.T) {
	for _, s := range seers() {
		if !label.Seer(s) {
			t.Errorf("P7.4: Seer(%q) = false", s)
		}
	}
	for _, s := range notSeers() {
		if label.Seer(s) {
			t.Errorf("P7.4: Seer(%.200q) = true", s)
		}
	}
}

func TestSeerOfAllShortTexts(t *testing.T) {
	found := 0
	for _, s := range append(words(6, "/", ".", "a"), words(4, "//", "/", "...", "a", "public", ":")...) {
		for _, s := range []string{s, "//" + s, "//a" + s} {
			want := seeWord(s)
			if label.Seer(s) != want {
				t.Errorf("P7.4: Seer(%q) = %v", s, !want)
			}
			if want {
				found++
			}
		}
	}
	if found < 100 {
		t.Errorf("the texts have only %d see words", found)
	}
}

func TestExample5(t *testing.T) {
	checkSees(t, nil, "a", "a", true)
	checkSees(t, []string{"//a"}, "x", "a/b", false)
	checkSees(t, []string{"//a/..."}, "x", "a/b", true)
	checkSees(t, []string{"//a/..."}, "x", "a", true)
	checkSees(t, []string{"//a/..."}, "x", "ab", false)
	checkSees(t, []string{"//"}, "x", "", true)
	checkSees(t, []string{"//..."}, "x", "q", true)
	checkSees(t, []string{"q", "public"}, "x", "y", true)
}

func TestOwnPackageSees(t *testing.T) {
	for _, p := range []string{"", "a", "a/b", "/", "a/", "..", "\xff", pathOf(13)} {
		for _, see := range [][]string{nil, {}, {"//x"}, {"", "no see word"}} {
			checkSees(t, see, p, p, true)
			checkSees(t, see, p, p+"/b", false)
			checkSees(t, see, p+"/b", p, false)
		}
	}
	checkSees(t, nil, "a", "A", false)
	checkSees(t, nil, "", "/", false)
	checkSees(t, nil, "a", "a/", false)
}

func TestSees(t *testing.T) {
	deepest := pathOf(12)
	for _, c := range []struct {
		word  string
		named []string
		not   []string
	}{
		{"public", []string{"", "a", "a/b", "public", "/", "..", "\xff", pathOf(13)}, nil},
		{"//...", []string{"", "a", "a/b", "public", "/", "..", "\xff", pathOf(13)}, nil},
		{"//", []string{""}, []string{"/", "//", "a", "a/b"}},
		{"//a", []string{"a"}, []string{"", "a/b", "a/", "/a", "ab", "a-b", "b", "b/a", "A", "//a"}},
		{"//a/...", []string{"a", "a/b", "a/b/c", "a/", "a//b", "a/..."}, []string{"", "ab", "a-b", "a.b/c", "b", "b/a", "/a", "A/b", "//a"}},
		{"//a/b", []string{"a/b"}, []string{"", "a", "a/b/c", "a/bc", "b", "a/b/"}},
		{"//a/b/...", []string{"a/b", "a/b/c", "a/b/c/d"}, []string{"", "a", "a/c", "a/bc", "a/b-c", "b", "b/a/b"}},
		{"//public", []string{"public"}, []string{"", "a", "public/a"}},
		{"//..../...", []string{"....", "..../a"}, []string{"", "a", "...", "....a"}},
		{"//" + deepest, []string{deepest}, []string{pathOf(11), pathOf(13), ""}},
		{"//" + deepest + "/...", []string{deepest, pathOf(13)}, []string{pathOf(11), deepest + "b", ""}},
	} {
		for _, from := range c.named {
			checkSees(t, []string{c.word}, "x", from, true)
			checkSees(t, []string{"", "//y", c.word, "y"}, "x", from, true)
		}
		for _, from := range c.not {
			checkSees(t, []string{c.word}, "x", from, false)
			checkSees(t, []string{c.word}, "", from+"/x", seen([]string{c.word}, "", from+"/x"))
		}
	}
}

func TestNoSeeWordNamesNobody(t *testing.T) {
	for _, s := range notSeers() {
		froms := []string{"", "a", "a/b", "a/b/c", "public", "/", "..", "...", "a/..", pathOf(13), pathOf(14), longPath(121)}
		froms = append(froms, s, strings.TrimPrefix(s, "//"), strings.TrimSuffix(strings.TrimPrefix(s, "//"), "/..."))
		for _, from := range froms {
			if label.Sees([]string{s}, "x", from) {
				t.Errorf("P7.4: Sees([%.200q], x, %.200q) = true", s, from)
			}
		}
		checkSees(t, []string{s, "//a"}, "x", "a", true)
		checkSees(t, []string{"//a", s}, "x", "a", true)
	}
}

func TestSeesOfAllShortTexts(t *testing.T) {
	var froms, see []string
	for _, p := range words(4, "/", ".", "a") {
		froms = append(froms, p, "a/"+p)
		see = append(see, p, "//"+p, "//a/"+p, "//"+p+"/...", "//"+p+"...")
	}
	see = append(see, "public", "publi", "")
	for _, from := range froms {
		named := namers(from)
		for _, s := range see {
			if want := slices.Contains(named, s); label.Sees([]string{s}, "x", from) != want {
				t.Errorf("P7.4: Sees([%q], x, %q) = %v", s, from, !want)
			}
		}
	}
}

func TestSeesOfSomeLists(t *testing.T) {
	r := rand.New(rand.NewSource(7))
	packages := []string{"", "a", "a/b", "a/b/a", "ab", "b", "b/a", "a-b", "..", "a/", "/a"}
	see := append(seers(), "", "a", "///...", "//a/", "//a:b", "Public", "//b/...", "//b")
	see = slices.DeleteFunc(see, func(s string) bool { return s == "public" || s == "//..." })
	counts := [2]int{}
	for range 20000 {
		var l []string
		for range r.Intn(6) {
			l = append(l, see[r.Intn(len(see))])
		}
		own, from := packages[r.Intn(len(packages))], packages[r.Intn(len(packages))]
		want := seen(l, own, from)
		checkSees(t, l, own, from, want)
		if want {
			counts[1]++
		} else {
			counts[0]++
		}
	}
	if min(counts[0], counts[1]) < 2000 {
		t.Errorf("one-sided: %v", counts)
	}
}

// someLabels are labels that may be, each once.
func someLabels() []api.Label {
	var l []api.Label
	for _, pkg := range words(3, "/", "-", "a", ".") {
		for _, name := range words(2, "-", "a", ".") {
			if goodPath(pkg) && goodName(name) {
				l = append(l, lab(pkg, name))
			}
		}
	}
	for _, x := range mayBe() {
		l = append(l, x)
	}
	return l
}

func TestThereAndBack(t *testing.T) {
	texts := map[string]api.Label{}
	for _, l := range someLabels() {
		s := label.Print(l)
		if back, e := label.Parse(s); back != l || e != api.OK {
			t.Errorf("P7.5: Parse(Print(%q)) = %q, %d", l, back, e)
		}
		if in, e := label.In(l.Pkg, ":"+l.Name); in != l || e != api.OK {
			t.Errorf("P7.5: In(%q, %q) = %q, %d", l.Pkg, ":"+l.Name, in, e)
		}
		if other, there := texts[s]; there && other != l {
			t.Errorf("P7.5: %q and %q have one text, %q", l, other, s)
		}
		texts[s] = l
	}
	for _, s := range words(5, "//", "/", ":", ".", "a") {
		if l, e := label.Parse(s); e == api.OK && (label.Print(l) != s || !label.Valid(l)) {
			t.Errorf("P7.5: Print(Parse(%q)) = %q", s, label.Print(l))
		}
	}
}

func TestCmpIsAnOrder(t *testing.T) {
	l := someLabels()
	rand.New(rand.NewSource(5)).Shuffle(len(l), func(i, k int) { l[i], l[k] = l[k], l[i] })
	slices.SortFunc(l, label.Cmp)
	for i, a := range l {
		for k, b := range l {
			c := label.Cmp(a, b)
			if c != -label.Cmp(b, a) || (c == 0) != (a == b) || a != b && c != max(-1, min(1, i-k)) {
				t.Errorf("P7.5: Cmp(%q, %q) = %d, the other way %d, at %d and %d", a, b, c, label.Cmp(b, a), i, k)
			}
		}
	}
}

func TestATreeSeesWhatItsTopSees(t *testing.T) {
	var packages []string
	for _, p := range words(4, "/", "-", "a") {
		if goodPath(p) {
			packages = append(packages, p)
		}
	}
	for _, from := range packages {
		if !label.Sees([]string{"//..."}, "x", from) || !label.Sees([]string{"public"}, "x", from) {
			t.Errorf("P7.5: %q is not seen by all", from)
		}
		for _, p := range packages {
			all := "//" + p + "/..."
			if p == "" {
				all = "//..."
			}
			if label.Sees([]string{"//" + p}, "x", from) && !label.Sees([]string{all}, "x", from) {
				t.Errorf("P7.5: %q is named by %q, and not by %q", from, "//"+p, all)
			}
		}
	}
}

// withRoom lays the items into a list with spare room that is full of the mark.
func withRoom(items []string, mark string) (list, whole []string) {
	whole = append(slices.Clone(items), mark, mark, mark)
	return whole[:len(items)], whole
}

func TestWhatIsHandedInStays(t *testing.T) {
	for _, items := range [][]string{nil, {"//a"}, {"//a/...", "public", "//..."}, seers(), notSeers(), append(notSeers(), seers()...)} {
		list, whole := withRoom(items, "public")
		before := slices.Clone(whole)
		for _, from := range []string{"", "a", "a/b", "zz", "/"} {
			checkSees(t, list, "x", from, seen(items, "x", from))
			if !slices.Equal(whole, before) {
				t.Fatalf("P7.6: Sees(%.200q, x, %q) changed its list, or the room behind it", items, from)
			}
		}
	}
}

func TestNothingIsKept(t *testing.T) {
	list, whole := withRoom([]string{"//a", "//b/..."}, "//c")
	checkSees(t, list, "x", "b/c", true)
	for i := range whole {
		whole[i] = "//z"
	}
	checkSees(t, list, "x", "b/c", false)
	checkSees(t, list, "x", "z", true)
	checkSees(t, nil, "x", "z", false)
	checkSees(t, nil, "x", "b/c", false)

	b := []byte("//a/b:n")
	l, e := label.Parse(string(b))
	in, e2 := label.In("q", string(b[5:]))
	copy(b, "//zzz:m")
	if l != lab("a/b", "n") || e != api.OK || in != lab("q", "n") || e2 != api.OK {
		t.Errorf("P7.6: Parse = %q, %d, In = %q, %d", l, e, in, e2)
	}
	for range 3 {
		checkParse(t, string(b), lab("zzz", "m"), api.OK)
		checkIn(t, "a/", ":n", api.Label{}, api.ErrPath)
		checkIn(t, "a", ":n", lab("a", "n"), api.OK)
	}
}
