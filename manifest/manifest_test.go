package manifest_test

import (
	"math/rand"
	"reflect"
	"regexp"
	"slices"
	"strconv"
	"strings"
	"testing"

	"copse/api"
	"copse/manifest"
)

func repeat(s string, n int) string { return strings.Repeat(s, n) }

func texts(l ...string) []string { return l }

func named(name string) api.Target { return api.Target{Name: name} }

func lab(pkg, name string) api.Label { return api.Label{Pkg: pkg, Name: name} }

func labs(l ...api.Label) []api.Label { return l }

func list(l ...api.Target) []api.Target { return l }

// words are all texts of at most so many of the parts.
func words(most int, parts ...string) []string {
	l := []string{""}
	for from := 0; most > 0; most-- {
		to := len(l)
		for _, s := range l[from:to] {
			for _, p := range parts {
				l = append(l, s+p)
			}
		}
		from = to
	}
	return l
}

// numbered are n unlike texts of equal length.
func numbered(ahead string, n int) []string {
	var l []string
	for i := range n {
		l = append(l, ahead+strconv.Itoa(100+i))
	}
	return l
}

func sameTarget(a, b api.Target) bool {
	return a.Name == b.Name && slices.Equal(a.Srcs, b.Srcs) && slices.Equal(a.Deps, b.Deps) && slices.Equal(a.See, b.See)
}

func sameTargets(a, b []api.Target) bool { return slices.EqualFunc(a, b, sameTarget) }

// The oracle: the chapter's words, by regular expressions and a table.

var (
	component = regexp.MustCompile(`\A[a-zA-Z0-9._-]{1,32}\z`)
	lastPiece = regexp.MustCompile(`\A[a-zA-Z0-9._-]*\*[a-zA-Z0-9._-]*\z`)
	labelText = regexp.MustCompile(`\A//([^:]*):([^:]*)\z`)
	piece     = regexp.MustCompile(`\A(?:([\t\n\r ]|#[^\n]*)|([a-zA-Z0-9._/*:-]+|[{}\[\],=]))`)
)

func isComponent(s string) bool {
	return component.MatchString(s) && !slices.Contains(texts(".", "..", "..."), s)
}

func isPath(p string) bool {
	l := strings.Split(p, "/")
	return p == "" || len(p) <= 120 && len(l) <= 12 && !slices.ContainsFunc(l, func(s string) bool { return !isComponent(s) })
}

func below(pkg, word string) string {
	if pkg == "" {
		return word
	}
	return pkg + "/" + word
}

func isLiteral(pkg, word string) bool {
	return word != "" && isPath(word) && word != "TARGETS" && !strings.HasSuffix(word, "/TARGETS") && isPath(below(pkg, word))
}

func isGlob(pkg, word string) bool {
	l := strings.Split(word, "/")
	ahead, last := l[:len(l)-1], l[len(l)-1]
	if !lastPiece.MatchString(last) || len(last) > 32 {
		return false
	}
	if dir := strings.Join(ahead, "/"); len(ahead) > 0 && (dir == "" || !isPath(dir)) {
		return false
	}
	whole := below(pkg, word)
	return len(whole) <= 120 && len(strings.Split(whole, "/")) <= 12
}

func isSource(pkg, word string) bool { return isLiteral(pkg, word) || isGlob(pkg, word) }

func isLabel(l api.Label) bool { return isPath(l.Pkg) && isComponent(l.Name) }

func depOf(pkg, word string) (api.Label, bool) {
	if strings.HasPrefix(word, ":") {
		l := lab(pkg, word[1:])
		return l, isLabel(l)
	}
	m := labelText.FindStringSubmatch(word)
	if m == nil {
		return api.Label{}, false
	}
	return lab(m[1], m[2]), isLabel(lab(m[1], m[2]))
}

func isSeer(word string) bool {
	if word == "public" || word == "//..." {
		return true
	}
	if !strings.HasPrefix(word, "//") {
		return false
	}
	p := word[2:]
	return isPath(p) || strings.HasSuffix(p, "/...") && p != "/..." && isPath(strings.TrimSuffix(p, "/..."))
}

// cut gives a text's tokens and their places, and that of the byte that may not stand.
func cut(s string) (tokens []string, places []int, stray int) {
	for at := 0; at < len(s); {
		m := piece.FindStringSubmatch(s[at:])
		if m == nil {
			return tokens, places, at
		}
		if m[2] != "" {
			tokens, places = append(tokens, m[2]), append(places, at)
		}
		at += len(m[0])
	}
	return tokens, places, -1
}

// form is the form as a table: what a token may be, and what is called for behind it.
var form = map[string]map[string]string{
	"a target":          {"target": "a name"},
	"a name":            {"any word": "an open"},
	"an open":           {"{": "a field"},
	"a field":           {"srcs": "equals", "deps": "equals", "see": "equals", "}": "a target"},
	"equals":            {"=": "a begin"},
	"a begin":           {"[": "a word or an end"},
	"a word or an end":  {"any word": "a comma or an end", "]": "a field"},
	"a comma or an end": {",": "a word", "]": "a field"},
	"a word":            {"any word": "a comma or an end"},
}

// step tells what is called for behind a token; "", if the token is out of place.
func step(state, token string) string {
	if next := form[state][token]; next != "" || strings.Contains("{}[],=", token) {
		return next
	}
	return form[state]["any word"]
}

// reading is the oracle's state beside the form.
type reading struct {
	pkg   string
	l     []api.Target
	field string
	said  map[string]bool
	count int
}

// new tells whether that was not said before.
func (r *reading) new(what string) bool {
	was := r.said[what]
	r.said[what] = true
	return !was
}

// word takes a word of the list; it tells whether it may be there.
func (r *reading) word(w string) bool {
	t := &r.l[len(r.l)-1]
	r.count++
	here, ok := "word "+t.Name+" "+r.field+" ", false
	switch r.field {
	case "srcs":
		t.Srcs, ok = append(t.Srcs, w), isSource(r.pkg, w) && r.new(here+w)
	case "deps":
		var l api.Label
		l, ok = depOf(r.pkg, w)
		t.Deps, ok = append(t.Deps, l), ok && r.new(here+l.Pkg+" "+l.Name)
	case "see":
		t.See, ok = append(t.See, w), isSeer(w) && r.new(here+w)
	}
	return ok && r.count <= 64
}

// takes tells whether a token that the form allows may stand.
func (r *reading) takes(state, token string) bool {
	switch {
	case state == "a target":
		return len(r.l) < 64
	case state == "a name":
		r.l = append(r.l, named(token))
		return isComponent(token) && r.new("name "+token)
	case state == "a field" && token != "}":
		r.field, r.count = token, 0
		return r.new("field " + r.l[len(r.l)-1].Name + " " + token)
	case strings.HasPrefix(state, "a word") && token != "]":
		return r.word(token)
	}
	return true
}

// read is what Parse should answer.
func read(pkg, s string) ([]api.Target, int) {
	if !isPath(pkg) {
		return nil, 0
	}
	if len(s) > 4096 {
		return nil, 4096
	}
	tokens, places, stray := cut(s)
	r, state := reading{pkg: pkg, said: map[string]bool{}}, "a target"
	for i, token := range tokens {
		next := step(state, token)
		if next == "" || !r.takes(state, token) {
			return nil, places[i]
		}
		state = next
	}
	switch {
	case stray >= 0:
		return nil, stray
	case state != "a target":
		return nil, len(s)
	}
	return r.l, -1
}

// differ tells whether a list is short enough and says nothing twice.
func differ[T comparable](l []T) bool {
	said := map[T]bool{}
	for _, v := range l {
		said[v] = true
	}
	return len(said) == len(l) && len(l) <= 64
}

func all[T any](l []T, ok func(T) bool) bool {
	return !slices.ContainsFunc(l, func(v T) bool { return !ok(v) })
}

// mayBe tells whether targets are those of a manifest, however long its text.
func mayBe(pkg string, l []api.Target) bool {
	var names []string
	for _, t := range l {
		names = append(names, t.Name)
		source := func(w string) bool { return isSource(pkg, w) }
		if !all(t.Srcs, source) || !all(t.Deps, isLabel) || !all(t.See, isSeer) || !differ(t.Srcs) || !differ(t.Deps) || !differ(t.See) {
			return false
		}
	}
	return all(names, isComponent) && differ(names)
}

// lines is the text of targets.
func lines(l []api.Target) string {
	s := ""
	for _, t := range l {
		var deps []string
		for _, d := range t.Deps {
			deps = append(deps, "//"+d.Pkg+":"+d.Name)
		}
		s += "target " + t.Name + " {\n"
		for i, words := range [][]string{t.Srcs, deps, t.See} {
			if len(words) > 0 {
				s += "  " + texts("srcs", "deps", "see")[i] + " = [" + strings.Join(words, ", ") + "]\n"
			}
		}
		s += "}\n"
	}
	return s
}

// written is what Print should answer.
func written(pkg string, l []api.Target) (string, api.Errno) {
	if !isPath(pkg) {
		return "", api.ErrPath
	}
	if s := lines(l); mayBe(pkg, l) && len(s) <= 4096 {
		return s, api.OK
	}
	return "", api.ErrText
}

func check(t *testing.T, pkg, s string, want []api.Target) {
	t.Helper()
	if l, at := manifest.Parse(pkg, s); at != -1 || !sameTargets(l, want) {
		t.Errorf("P9.1: Parse(%q, %.300q) = %.300v, %d, want %.300v, -1", pkg, s, l, at, want)
	}
}

func checkFault(t *testing.T, pkg, s string, want int) {
	t.Helper()
	if l, at := manifest.Parse(pkg, s); at != want || len(l) != 0 {
		t.Errorf("P9.1: Parse(%q, %.300q) = %.300v, %d, want none, %d", pkg, s, l, at, want)
	}
}

// checkRead holds what is parsed against the oracle.
func checkRead(t *testing.T, pkg, s string) {
	t.Helper()
	if l, at := read(pkg, s); at < 0 {
		check(t, pkg, s, l)
	} else {
		checkFault(t, pkg, s, at)
	}
}

func checkPrint(t *testing.T, pkg string, l []api.Target, want string, e api.Errno) {
	t.Helper()
	if s, got := manifest.Print(pkg, l); s != want || got != e {
		t.Errorf("P9.2: Print(%q, %.300v) = %.300q, %d, want %.300q, %d", pkg, l, s, got, want, e)
	}
}

// checkWritten holds what is printed against the oracle.
func checkWritten(t *testing.T, pkg string, l []api.Target) {
	t.Helper()
	s, e := written(pkg, l)
	checkPrint(t, pkg, l, s, e)
}

// deepest has as many pieces as a path may have, longest as many bytes.
var (
	deepest = repeat("d/", 11) + "d"
	longest = repeat("l", 30) + repeat("/"+repeat("l", 29), 3)
)

func packages() []string {
	return texts("", "p", "q", "a/b", "target", "TARGETS", "....", deepest[:21], deepest, longest[:88], longest)
}

// whole is a target with all fields, and some texts of a manifest that has just it.
func whole() []api.Target {
	return list(api.Target{Name: "a", Srcs: texts("x.c", "d/*.h"), Deps: labs(lab("p", "b"), lab("q", "c")), See: texts("public")})
}

const wholeText = "target a{srcs=[x.c,d/*.h]deps=[:b,//q:c]see=[public]}"

// The examples.

func TestExample1(t *testing.T) {
	check(t, "p", "", nil)
	check(t, "p", "target a{}", list(named("a")))
	check(t, "p", wholeText, whole())
}

func TestExample2(t *testing.T) {
	for _, c := range []struct {
		text string
		at   int
	}{
		{"target a{", 9}, {"target a b", 9}, {"targets", 0}, {"target a{} target a{}", 18}, {"target a{srcs=[x,x]}", 17},
		{"target a{deps=[:b,//p:b]}", 18}, {"target a{srcs=[x,]}", 17}, {"target a{srcs=[]srcs=[]}", 16}, {"target a/b{}", 7},
		{"target a{srcs=[TARGETS]}", 15}, {"target a{srcs=[*/x]}", 15}, {"target a{srcs=[a**]}", 15}, {"target a{srcs=[/x]}", 15},
		{"target a;", 8}, {"target a{};", 10},
	} {
		checkFault(t, "p", c.text, c.at)
	}
}

func TestExample3(t *testing.T) {
	checkPrint(t, "p", list(api.Target{Name: "a", Srcs: texts("x.c", "d/*.h"), Deps: labs(lab("p", "b"))}), "target a {\n  srcs = [x.c, d/*.h]\n  deps = [//p:b]\n}\n", api.OK)
	checkPrint(t, "p", list(named("a")), "target a {\n}\n", api.OK)
	checkPrint(t, "p", nil, "", api.OK)
	checkPrint(t, "p", list(named("")), "", api.ErrText)
	checkPrint(t, "p", list(named("a"), named("a")), "", api.ErrText)
	checkPrint(t, "/", nil, "", api.ErrPath)
}

// Parse: the form.

func TestNoTarget(t *testing.T) {
	for _, pkg := range packages() {
		for _, s := range texts("", " ", "\n", "\t\r\n ", "#", "# target a{}", "# ;\n", "#a\n#b", repeat(" ", 4096), repeat("#\n", 2048), "#"+repeat(";", 4095)) {
			check(t, pkg, s, nil)
		}
	}
}

func TestDepsAreOfThePackage(t *testing.T) {
	for _, pkg := range packages() {
		check(t, pkg, "target a{deps=[:b,//q/r:c,//:d]}", list(api.Target{Name: "a", Deps: labs(lab(pkg, "b"), lab("q/r", "c"), lab("", "d"))}))
	}
}

func TestOrderIsKept(t *testing.T) {
	check(t, "p", "target z{srcs=[y,x,*,a/b,a]} target a{deps=[:z,//z:a,:a,//:y]} target m{see=[//z,//a,public,//...,//]}", list(
		api.Target{Name: "z", Srcs: texts("y", "x", "*", "a/b", "a")},
		api.Target{Name: "a", Deps: labs(lab("p", "z"), lab("z", "a"), lab("p", "a"), lab("", "y"))},
		api.Target{Name: "m", See: texts("//z", "//a", "public", "//...", "//")},
	))
}

// orders are all orders of all parts of a list.
func orders(l []string) [][]string {
	all := [][]string{nil}
	for i, first := range l {
		for _, rest := range orders(slices.Delete(slices.Clone(l), i, i+1)) {
			all = append(all, append(texts(first), rest...))
		}
	}
	return all
}

func TestFieldsInEachOrder(t *testing.T) {
	for count := range 4 {
		srcs, deps, see := texts("x", "y/*", "z")[:count], texts(":x", "//:y", "//z:z")[:count], texts("//x", "//y/...", "public")[:count]
		all := orders(texts("srcs=["+strings.Join(srcs, ",")+"]", "deps = [ "+strings.Join(deps, " , ")+" ]\n", "see=\t[#x\n"+strings.Join(see, ",#y\n")+"#z\n]"))
		if len(all) != 16 {
			t.Fatalf("there are %d orders", len(all))
		}
		for _, fields := range all {
			want := named("n")
			for _, f := range fields {
				switch f[:2] {
				case "sr":
					want.Srcs = srcs
				case "de":
					want.Deps = labs(lab("p", "x"), lab("", "y"), lab("z", "z"))[:count]
				default:
					want.See = see
				}
			}
			text := "target n{" + strings.Join(fields, "") + "}"
			check(t, "p", text, list(want))
			checkRead(t, "p", text)
			checkRead(t, "p", text+"target m{"+strings.Join(fields, "")+"}")
			for _, f := range fields {
				ahead := "target n{" + strings.Join(fields, "")
				checkFault(t, "p", ahead+f+"}", len(ahead))
				other := f[:strings.Index(f, "=")]
				checkFault(t, "p", ahead+other, len(ahead))
				checkFault(t, "p", ahead+other+"=[]}", len(ahead))
			}
		}
	}
}

func TestEmptyListsAreThere(t *testing.T) {
	for _, f := range texts("srcs", "deps", "see") {
		check(t, "p", "target a{"+f+"=[]}", list(named("a")))
		checkFault(t, "p", "target a{"+f+"=[]"+f+"=[]}", 12+len(f))
		checkFault(t, "p", "target a{"+f+"=[] "+f+"=[public]}", 13+len(f))
	}
	check(t, "p", "target a{srcs=[]deps=[]see=[]}", list(named("a")))
	check(t, "p", "target a{see=[]deps=[]srcs=[]}target b{see=[]deps=[]srcs=[]}", list(named("a"), named("b")))
}

func TestWordsOfTheForm(t *testing.T) {
	own := texts("target", "srcs", "deps", "see")
	for _, w := range append(own, "public", "Target", "TARGETS", "0", "-", "_", "....", "a.b-C_9") {
		check(t, "p", "target "+w+"{}", list(named(w)))
		check(t, "p", "target "+w+"{deps=[:"+w+",//q/"+w+":"+w+"]}", list(api.Target{Name: w, Deps: labs(lab("p", w), lab("q/"+w, w))}))
		check(t, "p", "target "+w+"{see=[//"+w+",//"+w+"/...]}", list(api.Target{Name: w, See: texts("//"+w, "//"+w+"/...")}))
		if w != "TARGETS" {
			check(t, "p", "target "+w+"{srcs=["+w+"]}", list(api.Target{Name: w, Srcs: texts(w)}))
			check(t, "p", "target "+w+"{srcs=["+w+"/"+w+","+w+"*]}", list(api.Target{Name: w, Srcs: texts(w+"/"+w, w+"*")}))
		}
	}
	check(t, "", "target target{srcs=[target,srcs,deps,see]deps=[:target,:srcs,:deps,:see]see=[//target,//see]}target srcs{}target deps{}target see{}", list(
		api.Target{Name: "target", Srcs: own, Deps: labs(lab("", "target"), lab("", "srcs"), lab("", "deps"), lab("", "see")), See: texts("//target", "//see")},
		named("srcs"), named("deps"), named("see"),
	))
	for _, w := range texts("Target", "TARGET", "targets", "targe", "tar.get", "srcs", "deps", "see", "a", "//target", ":target", "target:", "target/a") {
		checkFault(t, "p", w+" a{}", 0)
		checkFault(t, "p", "target a{}"+w+" b{}", 10)
	}
	for _, w := range texts("Srcs", "src", "srcss", "dep", "depss", "DEPS", "See", "sees", "se", "target", "public", "a", ":see", "//srcs", "*") {
		checkFault(t, "p", "target a{"+w+"=[]}", 9)
		checkFault(t, "p", "target a{srcs=[]"+w+"=[]}", 16)
	}
}

// parts are the tokens of a manifest with all of the form in it.
func parts() []string {
	tokens, _, _ := cut("target a { srcs = [ x , d/*.h ] deps = [ :b , //q:c , //:e ] see = [ ] } target b { } target c { see = [ public ] srcs = [ ] }")
	return tokens
}

// every are tokens of all kinds.
func every() []string {
	return texts("target", "srcs", "deps", "see", "z", ":z", "//z", "//z:z", "z/*", "*", "/", "{", "}", "[", "]", ",", "=")
}

func spaced(l ...string) string { return strings.Join(l, " ") }

func TestTokenOutOfPlace(t *testing.T) {
	all, faults := parts(), 0
	for i := range all {
		ahead := spaced(all[:i]...) + " "
		for _, token := range every() {
			for _, rest := range [][]string{nil, all[i:], all[i+1:]} {
				text := ahead + token + " " + spaced(rest...)
				checkRead(t, "p", text)
				state := "a target"
				for _, a := range all[:i] {
					state = step(state, a)
				}
				if step(state, token) == "" {
					faults++
					checkFault(t, "p", text, len(ahead))
				}
			}
		}
	}
	if faults < 1000 {
		t.Errorf("only %d faults", faults)
	}
}

func TestMarkOutOfPlace(t *testing.T) {
	for _, c := range []struct{ text, may string }{
		{"", ""}, {"target", ""}, {"target a", "{"}, {"target a{", "}"}, {"target a{srcs", "="}, {"target a{srcs=", "["}, {"target a{srcs=[", "]"},
		{"target a{srcs=[x", ",]"}, {"target a{srcs=[x,", ""}, {"target a{srcs=[x]", "}"}, {"target a{}", ""},
	} {
		for _, mark := range strings.Split("{ } [ ] , =", " ") {
			if strings.Contains(c.may, mark) {
				continue
			}
			for _, behind := range texts("", " ", "x", "target", "}", "]}", ";", mark) {
				checkFault(t, "p", c.text+mark+behind, len(c.text))
				checkFault(t, "p", c.text+" \n"+mark+behind, len(c.text)+2)
			}
		}
	}
}

func TestWordOutOfPlace(t *testing.T) {
	for _, s := range texts("target a", "target a{srcs", "target a{srcs=", "target a{srcs=[x", "target a{deps=[:x", "target a{see=[public") {
		for _, w := range texts("x", "target", "srcs", "public", ":y", "//") {
			checkFault(t, "p", s+" "+w, len(s)+1)
			checkFault(t, "p", s+"#\n"+w+"{}]}", len(s)+2)
		}
	}
}

func TestEndsAtEveryToken(t *testing.T) {
	all := parts()
	for i := range len(all) + 1 {
		text := spaced(all[:i]...)
		if i == 0 || all[i-1] == "}" {
			for _, behind := range texts("", " ", "\n", "# x", " #;\n ") {
				if _, at := manifest.Parse("p", text+behind); at != -1 {
					t.Errorf("P9.1: Parse(p, %q) is faulty at %d", text+behind, at)
				}
			}
			continue
		}
		for _, behind := range texts("", " ", "\n", "# x", "#;", " \t\r\n# }\n  ") {
			checkFault(t, "p", text+behind, len(text+behind))
		}
		for _, stray := range texts(";", "\x00", "\xff", "\xc3\xa9", "\x0b", "(") {
			checkFault(t, "p", text+stray, len(text))
			checkFault(t, "p", text+" # x\n"+stray, len(text)+5)
			checkFault(t, "p", text+stray+"}", len(text))
		}
	}
	for i := range len(wholeText) {
		checkRead(t, "p", wholeText[:i])
		checkRead(t, "p", wholeText[:i]+" ")
		checkRead(t, "p", wholeText[i:])
	}
}

func TestBytesThatMayNotStand(t *testing.T) {
	for c := range 256 {
		s := string([]byte{byte(c)})
		for i := range len(wholeText) + 1 {
			checkRead(t, "p", wholeText[:i]+s+wholeText[i:])
			if i < len(wholeText) {
				checkRead(t, "p", wholeText[:i]+s+wholeText[i+1:])
			}
		}
		if _, _, stray := cut(s); stray == 0 {
			checkFault(t, "p", s, 0)
			checkFault(t, "p", "target a{}"+s, 10)
			checkFault(t, "p", "target a{}"+s+"target b{}", 10)
			checkFault(t, "p", "target a{srcs=[x"+s+"]}", 16)
			check(t, "p", "target a{#"+s+"\n}#"+s, list(named("a")))
		}
	}
}

func TestLeastPlace(t *testing.T) {
	for _, c := range []struct {
		text string
		at   int
	}{
		{"target a b;", 9}, {"target a; b", 8}, {"target a;{}", 8}, {";target", 0}, {"x;", 0}, {"target .;", 7}, {"target ;.", 7}, {"target a{srcs=[x,x;", 17},
		{"target a{srcs=[x;,x]}", 16}, {"target a{srcs=[x,;x]}", 17}, {"target a{x;", 9}, {"target a{;x", 9}, {"target a{}}}", 10}, {"target a{}};", 10},
		{"target a{};}", 10}, {"target a{srcs=[/x,/y]}", 15}, {"target a{srcs=[x,/y,/z]}", 17}, {"target /{} target /{}", 7}, {"target a{deps=[b]see=[c]}", 15},
		{"target a{see=[//b,//b,//b]}", 18}, {"target a{} a{} target a{}", 11}, {"target a{} target a{srcs=[/]}", 18}, {"target a/b", 7}, {"target a{srcs=[a**", 15},
		{"target a{srcs", 13}, {"target a{srcs;", 13}, {"target a{srcs=[x\xc3\xa9]}", 16}, {"target a{srcs=[,", 15}, {"target a{srcs=[]srcs", 16}, {"target a{} target a", 18},
	} {
		checkFault(t, "p", c.text, c.at)
	}
}

// Parse: names, sources, deps, seers.

func TestNames(t *testing.T) {
	for _, n := range texts("aa", "ZZ", "09", "a.b-C_9", "....", "..a", "--", "__", "TARGETS", repeat("n", 32)) {
		check(t, "p", "target "+n+"{}", list(named(n)))
		checkFault(t, "p", "target "+n+"{}target "+n+"{}", 9+len(n)+7)
		checkFault(t, "p", "target "+n+"{}target x{}\ntarget "+n, 9+len(n)+18)
		check(t, "p", "target x{}target "+n+"{}target x"+n[1:]+"{}", list(named("x"), named(n), named("x"+n[1:])))
	}
}

func TestNamesThatMayNotBe(t *testing.T) {
	for _, n := range texts(".", "..", "...", "/", "a/b", "/a", "a/", ":a", "a:", ":", "*", "a*", "//a", "//a:b", repeat("n", 33), repeat("n", 4000)) {
		for _, behind := range texts("", "{}", "{", " x", ";") {
			checkFault(t, "p", "target "+n+behind, 7)
			checkFault(t, "p", "target a{} target "+n+behind, 18)
		}
	}
	for _, n := range words(4, "a", ".", "/", "*", ":", "-") {
		checkRead(t, "p", "target "+n+"{}")
	}
}

// asked asks whether a word may stand in a list, by itself, first, last and in the middle.
func asked(t *testing.T, pkg, field, word, first, last string, may bool) {
	t.Helper()
	head := "target a{" + field + "=["
	for _, ahead := range texts("", first+",") {
		for _, behind := range texts("]}", ","+last+"]}") {
			text := head + ahead + word + behind
			if !may {
				checkFault(t, pkg, text, len(head+ahead))
				continue
			}
			if _, at := manifest.Parse(pkg, text); at != -1 {
				t.Errorf("P9.1: Parse(%q, %.300q) is faulty at %d", pkg, text, at)
			}
			checkRead(t, pkg, text)
		}
	}
}

func TestLiterals(t *testing.T) {
	for _, w := range texts("x", "x.c", "a/b", "a/b/c", "TARGETS/x", "a/TARGETS/x", "TARGETSx", "xTARGETS", "targets", "Targets", "TARGET", "....", ".a", "-", "_", "0", "srcs", "target",
		repeat("n", 32), repeat("n", 32)+"/"+repeat("n", 32)) {
		asked(t, "", "srcs", w, "first", "last", true)
		asked(t, "p", "srcs", w, "first", "last", true)
		asked(t, "p/q", "srcs", w, "first", "last", true)
	}
}

func TestLiteralsThatMayNotBe(t *testing.T) {
	for _, w := range texts("TARGETS", "a/TARGETS", "a/b/TARGETS", "TARGETS/TARGETS", "/", "//", "/x", "x/", "a//b", ".", "..", "...", "a/..", "../a", "a/./b", "a/.../b", ":", ":x", "x:", "//p:x", "a:b/c",
		repeat("n", 33), repeat("n", 33)+"/a", "a/"+repeat("n", 33), deepest+"/d", longest+"l", longest+"/l") {
		asked(t, "", "srcs", w, "first", "last", false)
		asked(t, "p", "srcs", w, "first", "last", false)
		asked(t, "p/q", "srcs", w, "first", "last", false)
	}
}

func TestGlobs(t *testing.T) {
	for _, w := range texts("*", "*.c", "a*", "a*b", ".*", "..*", "...*", "*.", "*..", "*...", ".*.", "-*_", "TARGETS*", "*TARGETS", "T*RGETS", "d/*", "d/e/*.h", "d/a*b", "TARGETS/*", "..../*",
		"a/..*", "*"+repeat("n", 31), repeat("n", 31)+"*", "d/"+repeat("n", 15)+"*"+repeat("n", 16), repeat("n", 32)+"/*") {
		asked(t, "", "srcs", w, "first", "last", true)
		asked(t, "p", "srcs", w, "first", "last", true)
		asked(t, "p/q", "srcs", w, "first", "last", true)
	}
}

func TestGlobsThatMayNotBe(t *testing.T) {
	for _, w := range texts("**", "a**", "*a*", "*/x", "*/*", "a*/b", "a*/b*", "*/a/*", "/*", "//*", "*/", "d/*/", "d//*", "./*", "../*", ".../*", "d/../*", ":*", "*:", "a:*", "//p:*", "d/a:*", "*/TARGETS",
		"*"+repeat("n", 32), repeat("n", 32)+"*", "d/"+repeat("n", 16)+"*"+repeat("n", 16), repeat("n", 33)+"/*", deepest+"/*", longest+"*", longest+"/*") {
		asked(t, "", "srcs", w, "first", "last", false)
		asked(t, "p", "srcs", w, "first", "last", false)
		asked(t, "p/q", "srcs", w, "first", "last", false)
	}
}

func TestSourcesInTheLimits(t *testing.T) {
	for pieces := range 13 {
		pkg := strings.TrimSuffix(repeat("p/", pieces), "/")
		for more := 1; more <= 13; more++ {
			for _, last := range texts("x", "*", "a*b") {
				text := "target a{srcs=[" + repeat("d/", more-1) + last
				if pieces+more > 12 {
					checkFault(t, pkg, text+"]}", 15)
					checkFault(t, pkg, text, 15)
					continue
				}
				asked(t, pkg, "srcs", text[15:], "first", "last", true)
				check(t, pkg, text+"]}", list(api.Target{Name: "a", Srcs: texts(text[15:])}))
			}
		}
	}
}

func TestSourcesOfManyBytes(t *testing.T) {
	met, passed := 0, 0
	for _, pkg := range texts("", "p", "pp", longest[:30], longest[:60], longest[:90], longest[:89], longest[:88], longest[:87]) {
		for n := 1; n <= 125; n++ {
			var pieces []string
			left := n
			for left > 30 {
				pieces, left = append(pieces, repeat("w", min(29, left-2))), left-min(29, left-2)-1
			}
			word := strings.Join(append(pieces, repeat("w", left)), "/")
			if len(word) != n {
				t.Fatalf("%q has not %d bytes", word, n)
			}
			may := len(below(pkg, word)) <= 120
			if may {
				met++
			} else {
				passed++
			}
			for _, w := range texts(word, word[:n-1]+"*") {
				head := "target a{srcs=["
				if may {
					check(t, pkg, head+w+"]}", list(api.Target{Name: "a", Srcs: texts(w)}))
				} else {
					checkFault(t, pkg, head+w+"]}", len(head))
				}
			}
		}
	}
	if met < 500 || passed < 300 {
		t.Errorf("%d are short enough, %d too long", met, passed)
	}
}

func TestSmallSources(t *testing.T) {
	may := 0
	for _, pkg := range texts("", "p", deepest[:19], deepest[:21], deepest, longest[:115], longest[:117], longest) {
		for _, w := range words(5, "a", "*", "/", ".", ":") {
			if w == "" {
				continue
			}
			checkRead(t, pkg, "target a{srcs=["+w+"]}")
			if isSource(pkg, w) {
				may++
			}
		}
		for _, w := range words(4, "TARGETS", "*", "/", "A", "...") {
			if w != "" {
				checkRead(t, pkg, "target a{srcs=["+w+"]}")
			}
		}
	}
	if may < 500 {
		t.Errorf("only %d may be", may)
	}
}

func TestDeps(t *testing.T) {
	for _, w := range texts(":a", ":target", ":....", ":"+repeat("n", 32), "//:a", "//p:a", "//p/q:a", "//TARGETS:TARGETS", "//"+deepest+":a", "//"+longest+":"+repeat("n", 32)) {
		for _, pkg := range packages() {
			asked(t, pkg, "deps", w, ":first", "//x:last", true)
		}
	}
	for _, w := range texts("a", "/", "//", "///", ":", "::", ":.", ":..", ":...", ":a/b", ":a:b", ":*", ":"+repeat("n", 33), "//a", "//a:", "//:", "/a:n", "//a:b:c", "//a/:n", "///:n", "//a:b/c", "//..:n", "//a//b:n",
		"//a:*", "//*:a", "a:b", "public", "//...", "//a/...", "*", "//"+deepest+"/d:a", "//"+longest+"l:a", "//"+repeat("n", 33)+":a") {
		for _, pkg := range packages() {
			asked(t, pkg, "deps", w, ":first", "//x:last", false)
		}
	}
	for _, w := range words(5, "a", ":", "/", ".", "*") {
		if w != "" {
			checkRead(t, "p", "target a{deps=["+w+"]}")
			checkRead(t, "", "target a{deps=[//"+w+"]}")
		}
	}
}

func TestSeers(t *testing.T) {
	for _, w := range texts("public", "//", "//a", "//a/b/...", "//...", "//TARGETS", "//....", "//..../...", "//"+deepest, "//"+deepest+"/...", "//"+longest, "//"+longest+"/...") {
		asked(t, "p", "see", w, "//first", "//last/...", true)
	}
	for _, w := range texts("a", "/", "//a/", "//a:b", "//a/../...", "///...", "Public", "publi", "public/...", "...", "/...", "//..", "//.", "//.../...", "///", "//a//...", ":a", "//*", "*", "//"+deepest+"/d", "//"+longest+"l/...") {
		asked(t, "p", "see", w, "//first", "//last/...", false)
	}
	for _, w := range words(4, "a", ":", "/", "...", "*", "public") {
		if w != "" {
			checkRead(t, "p", "target a{see=["+w+"]}")
			checkRead(t, "", "target a{see=[//"+w+"]}")
		}
	}
}

func TestTwiceInAList(t *testing.T) {
	for _, c := range []struct{ field, a, b string }{
		{"srcs", "x", "y"}, {"srcs", "*", "*.c"}, {"srcs", "d/x", "x"}, {"srcs", "X", "x"}, {"srcs", "x*", "*x"}, {"srcs", "x", "xx"}, {"deps", ":x", ":y"}, {"deps", "//p:x", "//p/q:x"},
		{"deps", "//:x", "//p:x"}, {"deps", ":x", "//q:x"}, {"see", "public", "//..."}, {"see", "//a", "//a/..."}, {"see", "//", "//..."}, {"see", "//a", "//A"},
	} {
		head := "target a{" + c.field + "=["
		checkRead(t, "p", head+c.a+","+c.b+"]}")
		if _, at := manifest.Parse("p", head+c.a+","+c.b+"]}"); at != -1 {
			t.Errorf("P9.1: %s, %s: a fault at %d", c.a, c.b, at)
		}
		checkFault(t, "p", head+c.a+","+c.a+"]}", len(head+c.a)+1)
		checkFault(t, "p", head+c.a+","+c.b+", "+c.a+"]}", len(head+c.a+c.b)+3)
		checkFault(t, "p", head+c.a+","+c.b+","+c.b+"]}", len(head+c.a+c.b)+2)
		checkFault(t, "p", head+c.a+","+c.a, len(head+c.a)+1)
		text := head + c.a + "]}target b{" + c.field + "=[" + c.a + "]}"
		checkRead(t, "p", text)
		if l, at := manifest.Parse("p", text); at != -1 || len(l) != 2 {
			t.Errorf("P9.1: %q: in two targets: a fault at %d", text, at)
		}
	}
}

func TestOneLabelInTwoWays(t *testing.T) {
	for _, pkg := range packages() {
		long := "//" + pkg + ":b"
		for _, pair := range [][]string{{":b", long}, {long, ":b"}, {long, long}, {":b", ":b"}} {
			head := "target a{deps=[" + pair[0] + ","
			checkFault(t, pkg, head+pair[1]+"]}", len(head))
			checkFault(t, pkg, head+"//x:b,"+pair[1]+"]}", len(head)+6)
		}
		check(t, pkg, "target a{deps=["+long+"]}target c{deps=[:b]}", list(
			api.Target{Name: "a", Deps: labs(lab(pkg, "b"))}, api.Target{Name: "c", Deps: labs(lab(pkg, "b"))}))
		other := below(pkg, "z")
		if isPath(other) {
			check(t, pkg, "target a{deps=[:b,//"+other+":b]}", list(api.Target{Name: "a", Deps: labs(lab(pkg, "b"), lab(other, "b"))}))
		}
	}
}

// Parse: the package and the limits.

func TestPackageThatIsNoPath(t *testing.T) {
	for _, pkg := range texts("/", "//", "p/", "/p", "p//q", ".", "..", "...", "p/..", "p q", "p:q", "p*", "\xc3\xa9", "\x00", repeat("p", 33), deepest+"/d", longest+"l") {
		for _, s := range texts("", "target a{}", wholeText, "target a b", ";", "x;", "  ;", repeat(" ", 4096), repeat(" ", 5000)) {
			checkFault(t, pkg, s, 0)
		}
	}
	for _, pkg := range packages() {
		check(t, pkg, "target a{}", list(named("a")))
		checkFault(t, pkg, "target a b", 9)
	}
}

func TestLongTexts(t *testing.T) {
	for _, n := range []int{0, 1, 4085, 4086} {
		for _, blank := range texts(" ", "\n", "#") {
			check(t, "p", "target a{}"+repeat(blank, n), list(named("a")))
		}
	}
	for _, n := range []int{4097, 4098, 5000, 100000} {
		for _, s := range texts("", "target a{}", ";", "x", "target a{", "target a b;", wholeText) {
			checkFault(t, "p", s+repeat(" ", n-len(s)), 4096)
			checkFault(t, "p", s+"#"+repeat("x", n-len(s)-1), 4096)
			checkFault(t, "", repeat("\n", n-len(s))+s, 4096)
		}
	}
	checkFault(t, "p", repeat(" ", 4095)+";", 4095)
	checkFault(t, "p", repeat(" ", 4095)+"x", 4095)
	checkFault(t, "p", repeat(" ", 4090)+"target", 4096)
	checkFault(t, "p", repeat(" ", 4090)+"targets", 4096)
	checkFault(t, "p", repeat("x", 4096), 0)
	checkFault(t, "p", repeat("x", 4097), 4096)
}

func TestManyTargets(t *testing.T) {
	names := numbered("t", 70)
	text, want := "", list()
	for i, n := range names {
		if i <= 64 {
			check(t, "p", text, want)
		} else {
			checkFault(t, "p", text, len("target t100{}")*64)
		}
		if i >= 64 {
			at := len("target t100{}") * 64
			for _, behind := range texts("target", "target "+n, "target t100{}", "target /", "target z{}", "target;", "x", "{", ";") {
				checkFault(t, "p", text+behind, at)
			}
			checkFault(t, "p", text[:at]+" \n target z{}", at+3)
		}
		text += "target " + n + "{}"
		want = append(want, named(n))
	}
}

func TestManyWords(t *testing.T) {
	for field, ahead := range map[string]string{"srcs": "x", "deps": ":x", "see": "//x"} {
		l := numbered(ahead, 70)
		head := "target a{" + field + "=["
		for n := range 71 {
			text := head + strings.Join(l[:n], ",") + "]}"
			at := len(head) + 64*(len(ahead)+4)
			if n > 64 {
				checkFault(t, "p", text, at)
				continue
			}
			checkRead(t, "p", text)
			if got, _ := manifest.Parse("p", text); len(got) != 1 || len(got[0].Srcs)+len(got[0].Deps)+len(got[0].See) != n {
				t.Errorf("P9.1: %d words: %v", n, got)
			}
		}
		full := head + strings.Join(l[:64], ",")
		for _, word := range texts(l[64], l[0], "/", "z", "public", "//z:z") {
			for _, behind := range texts("", "]}", ",", ";") {
				checkFault(t, "p", full+","+word+behind, len(full)+1)
			}
		}
		checkFault(t, "p", full+",", len(full)+1)
		checkFault(t, "p", full+",]}", len(full)+1)
		checkFault(t, "p", full+",;", len(full)+1)
		checkFault(t, "p", full+" z", len(full)+1)
	}
	words := func(ahead string) string { return strings.Join(numbered(ahead, 64), ",") }
	text := "target a{srcs=[" + words("x") + "]deps=[" + words(":x") + "]see=[" + words("//x") + "]}"
	want := api.Target{Name: "a", Srcs: numbered("x", 64), See: numbered("//x", 64)}
	for _, n := range want.Srcs {
		want.Deps = append(want.Deps, lab("p", n))
	}
	check(t, "p", text, list(want))
	also := want
	also.Name = "b"
	check(t, "p", text+"target b"+text[8:], list(want, also))
}

// Parse against the oracle.

func TestSmallWorldOfTokens(t *testing.T) {
	may := 0
	for _, ahead := range texts("", "target ", "target a ", "target a{", "target a{srcs ", "target a{srcs=", "target a{srcs=[", "target a{srcs=[x", "target a{srcs=[x,", "target a{srcs=[]", "target a{}") {
		for _, s := range words(4, "target ", "a ", "srcs ", "{", "}", "[", "]", ",", "=", ";") {
			checkRead(t, "p", ahead+s)
			if _, at := read("p", ahead+s); at < 0 {
				may++
			}
		}
		if t.Failed() {
			t.FailNow()
		}
	}
	if may < 30 {
		t.Errorf("only %d manifests", may)
	}
}

func TestSmallWorldOfPieces(t *testing.T) {
	for _, s := range words(4, "target a{", "target b{", "}", "srcs=[x]", "srcs=[]", "deps=[:b,//q:c]", "see=[//a", ",", "public]", "#\n", ";") {
		checkRead(t, "p", s)
	}
}

// pick is one of the list.
func pick(r *rand.Rand, l ...string) string { return l[r.Intn(len(l))] }

// some are up to most unlike ones of the list, in any order.
func some[T any](r *rand.Rand, most int, l ...T) []T {
	var picked []T
	for _, i := range r.Perm(len(l))[:r.Intn(min(most, len(l))+1)] {
		picked = append(picked, l[i])
	}
	return picked
}

// anyTargets are targets of a manifest, or nearly so, if a source, label, seer or name is added that may not be.
func anyTargets(r *rand.Rand, pkg string, faulty bool) []api.Target {
	names := texts("a", "b", "target", "srcs", "deps", "see", "TARGETS", "....", "x.y")
	srcs := texts("x", "x.c", "d/x", "*", "*.h", "d/*", "d/e/f*", "target", "see")
	deps := labs(lab(pkg, "a"), lab(pkg, "b"), lab("", "z"), lab("z", "a"), lab("z/p", "b"), lab("q/r", "srcs"))
	see := texts("public", "//", "//...", "//p", "//p/...", "//a/b/...", "//deps")
	if faulty {
		names = append(names, "", ".", "a b", "a/b", "a {\n}\ntarget b", "*", "a", "a#", "\xff")
		srcs = append(srcs, "", "/", "TARGETS", "x, y", "x,y", "x y", "**", "*/x", "a\n", "x]", "x", "x#", "x#\n", "é", "x] deps = [:b", "x\ny")
		deps = append(deps, lab("/", "a"), lab("", ""), lab("p:q", "a"), lab("p", "a:b"), lab("p", "a, //p:b"), lab(pkg, "a"), lab("p", "a"), lab("", "a"), lab("p", "a "), lab(" p", "a"))
		see = append(see, "", "a", "//a/", "public, //x", "public ", "public", "//a:b", "//p#", "//p\t")
	}
	var l []api.Target
	for _, n := range some(r, 4, names...) {
		l = append(l, api.Target{Name: n, Srcs: some(r, 4, srcs...), Deps: some(r, 4, deps...), See: some(r, 3, see...)})
	}
	return l
}

// blank is something that may lie between two tokens, if they are not two words.
func blank(r *rand.Rand) string {
	return pick(r, "", "", "", " ", "\n", "\t", "\r", "  ", " # x\n", "#\n", "#;\"\n", "\r\n")
}

// gap is a blank that parts words as well.
func gap(r *rand.Rand) string {
	return pick(r, " ", "\n", "\t", "\r", "  ", " # x\n", "#\n", "#\xff target z{}\n")
}

// loose is a text of targets, with blanks, empty lists and orders of fields as they come.
func loose(r *rand.Rand, pkg string, l []api.Target) string {
	var s strings.Builder
	put := func(tokens ...string) {
		for _, token := range tokens {
			s.WriteString(token + blank(r))
		}
	}
	for _, t := range l {
		put("target" + gap(r) + t.Name)
		put("{")
		var deps []string
		for _, d := range t.Deps {
			text := "//" + d.Pkg + ":" + d.Name
			if d.Pkg == pkg {
				text = pick(r, text, ":"+d.Name)
			}
			deps = append(deps, text)
		}
		lists := [][]string{t.Srcs, deps, t.See}
		for _, f := range r.Perm(3) {
			if len(lists[f]) == 0 && r.Intn(2) == 0 {
				continue
			}
			put(texts("srcs", "deps", "see")[f], "=", "[")
			for i, w := range lists[f] {
				if i > 0 {
					put(",")
				}
				put(w)
			}
			put("]")
		}
		put("}")
	}
	return blank(r) + s.String()
}

// spoilt is a text with a few tokens or bytes dropped, doubled, changed or put in.
func spoilt(r *rand.Rand, s string) string {
	for range r.Intn(3) + 1 {
		i := r.Intn(len(s) + 1)
		j := min(len(s), i+r.Intn(4))
		switch r.Intn(5) {
		case 0:
			s = s[:i] + s[j:]
		case 1:
			s = s[:j] + s[i:]
		case 2:
			s = s[:i] + pick(r, every()...) + s[j:]
		case 3:
			s = s[:i] + pick(r, ";", "#", "\n", ",", "]", "}", "\x00", "\xe9", " ", "*", "/", ":", ".") + s[i:]
		default:
			tokens, _, _ := cut(s)
			if len(tokens) > 0 {
				k := r.Intn(len(tokens))
				tokens[k] = pick(r, every()...)
				s = spaced(tokens...)
			}
		}
	}
	return s
}

func TestManyTexts(t *testing.T) {
	r := rand.New(rand.NewSource(9))
	good, bad := 0, 0
	for range 6000 {
		pkg := pick(r, "", "p", "q/r", "a/b/c", deepest[:17])
		l := anyTargets(r, pkg, false)
		s := loose(r, pkg, l)
		check(t, pkg, s, l)
		for range 3 {
			s = spoilt(r, s)
			checkRead(t, pkg, s)
			if _, at := read(pkg, s); at < 0 {
				good++
			} else {
				bad++
			}
		}
		if t.Failed() {
			t.FailNow()
		}
	}
	if good < 1000 || bad < 5000 {
		t.Errorf("%d parse, %d don't", good, bad)
	}
}

// Print.

func TestPrintForms(t *testing.T) {
	for srcs := range 4 {
		for deps := range 4 {
			for see := range 4 {
				target := api.Target{Name: "n", Srcs: texts("z", "a/*", "b")[:srcs], Deps: labs(lab("p", "z"), lab("", "y"), lab("a/b", "x"))[:deps], See: texts("public", "//", "//a/...")[:see]}
				want := "target n {\n" +
					texts("", "  srcs = [z]\n", "  srcs = [z, a/*]\n", "  srcs = [z, a/*, b]\n")[srcs] +
					texts("", "  deps = [//p:z]\n", "  deps = [//p:z, //:y]\n", "  deps = [//p:z, //:y, //a/b:x]\n")[deps] +
					texts("", "  see = [public]\n", "  see = [public, //]\n", "  see = [public, //, //a/...]\n")[see] + "}\n"
				checkPrint(t, "p", list(target), want, api.OK)
				checkPrint(t, "", list(target, named("m")), want+"target m {\n}\n", api.OK)
				checkPrint(t, "p", list(named("m"), target), "target m {\n}\n"+want, api.OK)
			}
		}
	}
}

func TestPrintOrderIsKept(t *testing.T) {
	checkPrint(t, "p", list(named("z"), named("a"), api.Target{Name: "m", See: texts("//z", "//a"), Srcs: texts("y", "x"), Deps: labs(lab("z", "a"), lab("a", "z"))}),
		"target z {\n}\ntarget a {\n}\ntarget m {\n  srcs = [y, x]\n  deps = [//z:a, //a:z]\n  see = [//z, //a]\n}\n", api.OK)
	checkPrint(t, "p", list(api.Target{Name: "target", Srcs: []string{}, Deps: []api.Label{}, See: []string{}}, named("see")), "target target {\n}\ntarget see {\n}\n", api.OK)
	checkPrint(t, "p", list(), "", api.OK)
}

func TestPrintPackages(t *testing.T) {
	for _, pkg := range packages() {
		checkPrint(t, pkg, nil, "", api.OK)
		checkPrint(t, pkg, list(api.Target{Name: "a", Deps: labs(lab(pkg, "b"))}), "target a {\n  deps = [//"+pkg+":b]\n}\n", api.OK)
		for _, w := range texts("x", "*", "d/x", "d/*", repeat("x", 29), repeat("d/", 10)+"x") {
			checkWritten(t, pkg, list(api.Target{Name: "a", Srcs: texts(w)}))
		}
	}
	for _, pkg := range texts("/", "p/", "/p", "p//q", ".", "...", "p q", "\xc3\xa9", repeat("p", 33), deepest+"/d", longest+"l") {
		for _, l := range [][]api.Target{nil, list(named("a")), list(named("")), list(named("a"), named("a")), list(named(repeat("n", 5000)))} {
			checkPrint(t, pkg, l, "", api.ErrPath)
		}
	}
}

func TestPrintFaults(t *testing.T) {
	for _, bad := range []api.Target{
		{}, {Name: "."}, {Name: "..."}, {Name: "a/b"}, {Name: "a b"}, {Name: "a "}, {Name: " a"}, {Name: "a\n"}, {Name: "*"}, {Name: ":a"}, {Name: "a#"}, {Name: "a{"}, {Name: "a {\n}\ntarget b"}, {Name: "a {} #"},
		{Name: "\xc3\xa9"}, {Name: repeat("n", 33)}, {Name: repeat("n", 5000)},
		{Name: "a", Srcs: texts("")}, {Name: "a", Srcs: texts("x", "")}, {Name: "a", Srcs: texts("x", "x")}, {Name: "a", Srcs: texts("x", "y", "x")}, {Name: "a", Srcs: texts("x, y")}, {Name: "a", Srcs: texts("x,y")},
		{Name: "a", Srcs: texts(" x")}, {Name: "a", Srcs: texts("x ")}, {Name: "a", Srcs: texts("x#\n")}, {Name: "a", Srcs: texts("x # y\n")}, {Name: "a", Srcs: texts("TARGETS")}, {Name: "a", Srcs: texts("/x")},
		{Name: "a", Srcs: texts("*/x")}, {Name: "a", Srcs: texts("**")}, {Name: "a", Srcs: texts("x]\n  see = [public")}, {Name: "a", Srcs: texts("x]\n}\ntarget b {\n  srcs = [y")}, {Name: "a", Srcs: texts(":b")},
		{Name: "a", Srcs: texts("x;")}, {Name: "a", Srcs: texts(repeat("x", 33))},
		{Name: "a", Deps: labs(lab("", ""))}, {Name: "a", Deps: labs(lab("p", ""))}, {Name: "a", Deps: labs(lab("/", "b"))}, {Name: "a", Deps: labs(lab("p/", "b"))}, {Name: "a", Deps: labs(lab("p", "b/c"))},
		{Name: "a", Deps: labs(lab("p:b", "c"))}, {Name: "a", Deps: labs(lab("p", "b:c"))}, {Name: "a", Deps: labs(lab("p", "b, //p:c"))}, {Name: "a", Deps: labs(lab("p", "b"), lab("p", "b"))},
		{Name: "a", Deps: labs(lab("p", "b"), lab("q", "b"), lab("p", "b"))}, {Name: "a", Deps: labs(lab("p", "b "))}, {Name: "a", Deps: labs(lab("p", "b"), lab("", "."))}, {Name: "a", Deps: labs(lab(deepest+"/d", "b"))},
		{Name: "a", See: texts("")}, {Name: "a", See: texts("b")}, {Name: "a", See: texts("public", "public")}, {Name: "a", See: texts("//a", "//b", "//a")}, {Name: "a", See: texts("public, //a")}, {Name: "a", See: texts("//a/")},
		{Name: "a", See: texts("//a:b")}, {Name: "a", See: texts("public ")}, {Name: "a", See: texts("public\n")}, {Name: "a", See: texts("public]#")},
	} {
		checkPrint(t, "p", list(bad), "", api.ErrText)
		checkPrint(t, "p", list(named("y"), bad), "", api.ErrText)
		checkPrint(t, "", list(bad, named("z")), "", api.ErrText)
	}
	checkPrint(t, "p", list(named("a"), named("b"), named("a")), "", api.ErrText)
}

func TestPrintSourcesInTheLimits(t *testing.T) {
	for pieces := range 13 {
		pkg := strings.TrimSuffix(repeat("p/", pieces), "/")
		for more := 1; more <= 13; more++ {
			for _, last := range texts("x", "*") {
				checkWritten(t, pkg, list(api.Target{Name: "a", Srcs: texts(repeat("d/", more-1) + last)}))
			}
		}
	}
	for n := 1; n <= 40; n++ {
		for _, pkg := range texts("", "p", longest[:88], longest[:89], longest[:90]) {
			checkWritten(t, pkg, list(api.Target{Name: "a", Srcs: texts(repeat("x", n), repeat("x", n-1)+"*")}))
		}
		checkWritten(t, "p", list(named(repeat("x", n))))
		checkWritten(t, "p", list(api.Target{Name: "a", Deps: labs(lab(repeat("x", n), "b"), lab("p", repeat("x", n)))}))
		checkWritten(t, "p", list(api.Target{Name: "a", See: texts("//" + repeat("x", n))}))
	}
}

func TestPrintMany(t *testing.T) {
	var l []api.Target
	for i, n := range numbered("t", 70) {
		want, e := lines(l), api.OK
		if i > 64 {
			want, e = "", api.ErrText
		}
		checkPrint(t, "p", l, want, e)
		l = append(l, named(n))
	}
	for n := range 71 {
		want := api.OK
		if n > 64 {
			want = api.ErrText
		}
		var deps []api.Label
		for _, name := range numbered("d", n) {
			deps = append(deps, lab("p", name))
		}
		for _, target := range list(api.Target{Name: "a", Srcs: numbered("x", n)}, api.Target{Name: "a", Deps: deps}, api.Target{Name: "a", See: numbered("//s", n)}) {
			if _, e := manifest.Print("p", list(target)); e != want {
				t.Errorf("P9.2: Print of %d words: %d", n, e)
			}
			checkWritten(t, "p", list(target))
		}
	}
}

// sized are targets whose text has just n bytes, 3000 to 6000, while none of its lists is too long.
func sized(t *testing.T, n int) []api.Target {
	t.Helper()
	var l []api.Target
	for i := 0; len(lines(l)) < n-200; i++ {
		l = append(l, api.Target{Name: "t" + strconv.Itoa(100+i), Srcs: texts(repeat("x", 32), repeat("y", 32), repeat("z", 15))})
	}
	for left := n - len(lines(l)); left > 0; left = n - len(lines(l)) {
		if left <= 44 {
			l = append(l, named(repeat("n", left-12)))
			break
		}
		l = append(l, named("u"+strconv.Itoa(100+len(l))))
	}
	if got := len(lines(l)); got != n || !mayBe("p", l) {
		t.Fatalf("a text of %d bytes, not of %d", got, n)
	}
	return l
}

func TestPrintTooLong(t *testing.T) {
	for n := 4050; n <= 4150; n++ {
		l := sized(t, n)
		want, e := lines(l), api.OK
		if n > 4096 {
			want, e = "", api.ErrText
		}
		checkPrint(t, "p", l, want, e)
		checkPrint(t, "", l, want, e)
		checkPrint(t, "p/", l, "", api.ErrPath)
	}
}

// A manifest may say in few bytes what is printed in too many.
func TestPrintTooLongThoughThereIsOne(t *testing.T) {
	text := ""
	for i, n := range numbered("t", 60) {
		text += "target " + n + "{deps=[:a,:b,:c,:d]}"
		l, at := manifest.Parse(longest, text)
		if at != -1 || len(l) != i+1 {
			t.Fatalf("P9.1: %d targets: a fault at %d", i+1, at)
		}
		want, e := lines(l), api.OK
		if len(want) > 4096 {
			want, e = "", api.ErrText
		}
		checkPrint(t, longest, l, want, e)
	}
}

func TestPrintAny(t *testing.T) {
	r := rand.New(rand.NewSource(92))
	good, bad := 0, 0
	for range 20000 {
		pkg := pick(r, "", "p", "q/r", "a/b/c", deepest[:17])
		l := anyTargets(r, pkg, true)
		checkWritten(t, pkg, l)
		checkWritten(t, pkg, anyTargets(r, pkg, false))
		if mayBe(pkg, l) {
			good++
		} else {
			bad++
		}
		if t.Failed() {
			t.FailNow()
		}
	}
	if good < 500 || bad < 5000 {
		t.Errorf("%d are printed, %d aren't", good, bad)
	}
}

func TestPrintSmallWords(t *testing.T) {
	for _, w := range words(3, "a", "/", "*", ":", ".", " ", ",", "#", "]", "\n", "\xff") {
		checkWritten(t, "p", list(named(w)))
		checkWritten(t, "p", list(api.Target{Name: "a", Srcs: texts(w)}))
		checkWritten(t, "p", list(api.Target{Name: "a", Srcs: texts("x", w)}))
		checkWritten(t, "p", list(api.Target{Name: "a", Deps: labs(lab(w, "a"))}))
		checkWritten(t, "p", list(api.Target{Name: "a", Deps: labs(lab("a", w))}))
		checkWritten(t, "p", list(api.Target{Name: "a", See: texts(w, "//"+w)}))
		checkWritten(t, "p", list(api.Target{Name: "a", See: texts("//" + w)}))
		checkPrint(t, w+" ", list(named("a")), "", api.ErrPath)
	}
}

// What follows.

func TestPrintedIsParsed(t *testing.T) {
	r := rand.New(rand.NewSource(93))
	for range 5000 {
		pkg := pick(r, "", "p", "q/r", deepest[:17])
		l := anyTargets(r, pkg, false)
		s, e := manifest.Print(pkg, l)
		if e != api.OK {
			t.Fatalf("P9.3: Print(%q, %v): %d", pkg, l, e)
		}
		if again, at := manifest.Parse(pkg, s); at != -1 || !sameTargets(again, l) {
			t.Fatalf("P9.3: Parse(%q, Print(%v)) = %v, %d", pkg, l, again, at)
		}
		text := loose(r, pkg, l)
		if r.Intn(2) == 0 {
			text = spoilt(r, text)
		}
		first, at := manifest.Parse(pkg, text)
		if at >= 0 {
			continue
		}
		s, e = manifest.Print(pkg, first)
		if again, at := manifest.Parse(pkg, s); e != api.OK || at != -1 || !sameTargets(again, first) {
			t.Fatalf("P9.3: Parse(%q, Print(Parse(%q))) = %v, %d, want %v", pkg, text, again, at, first)
		}
	}
}

func TestBlanksAndCommentsChangeNothing(t *testing.T) {
	r := rand.New(rand.NewSource(94))
	for range 5000 {
		s := loose(r, "p", anyTargets(r, "p", false))
		if r.Intn(2) == 0 {
			s = spoilt(r, s)
		}
		tokens, places, stray := cut(s)
		if stray >= 0 {
			continue
		}
		l, at := manifest.Parse("p", s)
		var other strings.Builder
		moved := map[int]int{-1: -1}
		for i, token := range tokens {
			other.WriteString(gap(r))
			moved[places[i]] = other.Len()
			other.WriteString(token)
		}
		other.WriteString(gap(r))
		moved[len(s)] = other.Len()
		if other.Len() > 4096 {
			continue
		}
		if again, place := manifest.Parse("p", other.String()); !sameTargets(l, again) || place != moved[at] {
			t.Fatalf("P9.3: %q parses to %v, %d, but %q to %v, %d", s, l, at, other.String(), again, place)
		}
	}
}

// ends are the places behind the "}" of targets.
func ends(s string) []int {
	var l []int
	tokens, places, _ := cut(s)
	for i, token := range tokens {
		if token == "}" {
			l = append(l, places[i]+1)
		}
	}
	return l
}

func TestCutBehindATarget(t *testing.T) {
	r := rand.New(rand.NewSource(95))
	for range 3000 {
		s := loose(r, "p", anyTargets(r, "p", false))
		l, at := manifest.Parse("p", s)
		places := ends(s)
		if at != -1 || len(places) != len(l) {
			t.Fatalf("P9.3: Parse(p, %q) = %v, %d", s, l, at)
		}
		for i, end := range places {
			head, at := manifest.Parse("p", s[:end])
			if at != -1 || !sameTargets(head, l[:i+1]) {
				t.Fatalf("P9.3: %q cut at %d: %v, %d", s, end, head, at)
			}
			tail, at := manifest.Parse("p", s[end:])
			if at != -1 || !sameTargets(tail, l[i+1:]) {
				t.Fatalf("P9.3: %q from %d on: %v, %d", s, end, tail, at)
			}
		}
	}
}

func TestTwoTargetsOneBehindTheOther(t *testing.T) {
	r := rand.New(rand.NewSource(96))
	both := 0
	for range 5000 {
		a, b := anyTargets(r, "p", false), anyTargets(r, "p", false)
		if len(a) == 0 || len(b) == 0 {
			continue
		}
		one, two := strings.TrimSpace(loose(r, "p", a[:1])), strings.TrimSpace(loose(r, "p", b[:1]))
		one, two = one[strings.Index(one, "target"):ends(one)[0]], two[strings.Index(two, "target"):ends(two)[0]]
		l, at := manifest.Parse("p", one+two)
		if a[0].Name == b[0].Name {
			if _, places, _ := cut(two); at != len(one)+places[1] || len(l) != 0 {
				t.Fatalf("P9.1: Parse(p, %q) = %v, %d", one+two, l, at)
			}
			continue
		}
		both++
		if at != -1 || !sameTargets(l, list(a[0], b[0])) {
			t.Fatalf("P9.3: Parse(p, %q) = %v, %d", one+two, l, at)
		}
	}
	if both < 1000 {
		t.Errorf("only %d pairs", both)
	}
}

func TestPlaceIsInTheText(t *testing.T) {
	r := rand.New(rand.NewSource(97))
	for i := range 10000 {
		s := spoilt(r, loose(r, "p", anyTargets(r, "p", false)))
		if i%10 == 0 {
			s += repeat(" ", 4097)
		}
		l, at := manifest.Parse(pick(r, "p", "", "p/"), s)
		switch {
		case at < -1, at > len(s), at >= 0 && len(l) > 0, len(s) > 4096 && at != 4096 && at != 0:
			t.Fatalf("P9.3: Parse of %.300q (%d bytes): %v, %d", s, len(s), l, at)
		}
	}
}

// The answer hangs on the arguments alone.
func TestAgainTheSame(t *testing.T) {
	r := rand.New(rand.NewSource(98))
	var calls []func() (any, any)
	for range 200 {
		pkg := pick(r, "p", "", "a/b", "/")
		l := anyTargets(r, pkg, r.Intn(2) == 0)
		s := loose(r, pkg, l)
		calls = append(calls, func() (any, any) { return manifest.Parse(pkg, s) }, func() (any, any) { return manifest.Print(pkg, l) })
	}
	type answer struct{ a, b any }
	var first []answer
	for _, c := range calls {
		a, b := c()
		first = append(first, answer{a, b})
	}
	for _, i := range r.Perm(len(calls)) {
		if a, b := calls[i](); !reflect.DeepEqual(a, first[i].a) || b != first[i].b {
			t.Fatalf("P9.4: two calls answer %v, %v and %v", a, b, first[i])
		}
	}
}

// Memory.

func withRoom[T any](items []T, mark T) (list, whole []T) {
	whole = append(slices.Clone(items), mark, mark, mark, mark)
	return whole[:len(items)], whole
}

// held are targets whose lists all have room behind them, with marks; and all of their lists, to their ends.
func held(targets []api.Target) (l []api.Target, look func() any) {
	l, all := withRoom(targets, named("mark"))
	var lists []any
	for i := range all {
		var srcs, deps, see any
		all[i].Srcs, srcs = second(withRoom(all[i].Srcs, "x"))
		all[i].Deps, deps = second(withRoom(all[i].Deps, lab("p", "mark")))
		all[i].See, see = second(withRoom(all[i].See, "public"))
		lists = append(lists, srcs, deps, see)
	}
	return l, func() any { return []any{all, lists} }
}

func second[T any](a, b []T) ([]T, any) { return a, b }

// copied is a whole copy of what look shows.
func copied(v any) any {
	parts := v.([]any)
	var lists []any
	for _, l := range parts[1].([]any) {
		switch l := l.(type) {
		case []string:
			lists = append(lists, slices.Clone(l))
		case []api.Label:
			lists = append(lists, slices.Clone(l))
		}
	}
	return []any{slices.Clone(parts[0].([]api.Target)), lists}
}

func TestWhatIsHandedInStays(t *testing.T) {
	r := rand.New(rand.NewSource(99))
	for range 2000 {
		targets := anyTargets(r, "p", r.Intn(2) == 0)
		l, look := held(targets)
		before := copied(look())
		pkg := pick(r, "p", "p", "", "/")
		s, e := manifest.Print(pkg, l)
		if want, code := written(pkg, targets); s != want || e != code {
			t.Fatalf("P9.2: Print(%q, %v) = %q, %d, want %q, %d", pkg, targets, s, e, want, code)
		}
		if !reflect.DeepEqual(look(), before) {
			t.Fatalf("P9.4: Print(%q, %v) changed what was handed in, or the room behind it", pkg, targets)
		}
	}
}

// pieces are all lists of an answer, to the ends of their room.
func pieces(l []api.Target) (targets []api.Target, words [][]string, labels [][]api.Label) {
	for _, t := range l {
		words = append(words, t.Srcs[:cap(t.Srcs)], t.See[:cap(t.See)])
		labels = append(labels, t.Deps[:cap(t.Deps)])
	}
	return l[:cap(l)], words, labels
}

// fill writes over all of an answer, each list with a mark of its own; filled tells whether the marks are there.
func fill(l []api.Target, mark string) (filled func() bool) {
	targets, words, labels := pieces(l)
	own := func(i int) string { return mark + strconv.Itoa(i) }
	for i, w := range words {
		for k := range w {
			w[k] = own(i)
		}
	}
	for i, w := range labels {
		for k := range w {
			w[k] = lab(own(i), mark)
		}
	}
	for i := range targets {
		targets[i] = named(mark)
	}
	return func() bool {
		ok := all(targets, func(t api.Target) bool { return sameTarget(t, named(mark)) })
		for i, w := range words {
			ok = ok && all(w, func(s string) bool { return s == own(i) })
		}
		for i, w := range labels {
			ok = ok && all(w, func(l api.Label) bool { return l == lab(own(i), mark) })
		}
		return ok
	}
}

func TestListsAreNewMemory(t *testing.T) {
	r := rand.New(rand.NewSource(910))
	many := texts("", "target a{}", wholeText, wholeText+"target b{srcs=[x,y,z]see=[//a,//b,//c]deps=[:x,:y,:z]}target c{}",
		"target a{srcs=["+strings.Join(numbered("x", 60), ",")+"]see=["+strings.Join(numbered("//x", 60), ",")+"]}")
	for range 500 {
		many = append(many, loose(r, "p", anyTargets(r, "p", false)))
	}
	for _, s := range many {
		want, at := read("p", s)
		first, _ := manifest.Parse("p", s)
		other, place := manifest.Parse("p", s)
		one := fill(first, "one")
		if !one() {
			t.Fatalf("P9.4: two lists of the answer to %q share memory", s)
		}
		if place != at || !sameTargets(other, want) {
			t.Fatalf("P9.4: two answers to %q share memory", s)
		}
		two := fill(other, "two")
		if !one() || !two() {
			t.Fatalf("P9.4: two answers to %q share memory", s)
		}
		checkRead(t, "p", s)
		if !one() || !two() {
			t.Fatalf("P9.4: an answer to %q was kept", s)
		}
	}
}
