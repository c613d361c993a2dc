package script_test

import (
	"encoding/hex"
	"fmt"
	"maps"
	"math/big"
	"regexp"
	"slices"
	"strings"

	"copse/api"
)

// The oracle: the chapter's words, and DOC.md's, over manifests of which it was told what they say, when they were made. It calls no layer.

// saying is what a manifest's text says: targets, or the place of its fault.
type saying struct {
	targets []api.Target
	at      int // -1: there is none
}

// book has what texts say.
type book map[string]saying

// model is a talk.
type model struct {
	book   book
	files  map[string]api.File
	labels map[api.Label]bool
	budget int
}

func newModel(b book) *model {
	return &model{b, map[string]api.File{}, map[api.Label]bool{}, 1}
}

func pieces(p string) []string {
	if p == "" {
		return nil
	}
	return strings.Split(p, "/")
}

func byPieces(p, q string) int { return slices.Compare(pieces(p), pieces(q)) }

func byLabels(a, b api.Label) int {
	if c := byPieces(a.Pkg, b.Pkg); c != 0 {
		return c
	}
	return strings.Compare(a.Name, b.Name)
}

func dirOf(p string) string { return p[:max(strings.LastIndex(p, "/"), 0)] }

func baseOf(p string) string { return p[strings.LastIndex(p, "/")+1:] }

func joined(pkg, p string) string { return strings.TrimPrefix(pkg+"/"+p, "/") }

// isWithin: is a path a directory, or below it?
func isWithin(p, dir string) bool { return dir == "" || strings.HasPrefix(p+"/", dir+"/") }

func shown(a api.Label) string { return "//" + a.Pkg + ":" + a.Name }

func or(s, other string) string {
	if s == "" {
		return other
	}
	return s
}

// Words.

const digits = `(0|[1-9][0-9]*)`

var lineForms = map[string]*regexp.Regexp{
	"put":    regexp.MustCompile(`^put ([^ ]+) ` + digits + ` ` + digits + `$`),
	"say":    regexp.MustCompile(`^say ([^ ]+) (-|(?:[0-9a-f]{2})+)$`),
	"cut":    regexp.MustCompile(`^cut ([^ ]+)$`),
	"want":   regexp.MustCompile(`^want //([^ :]*):([^ :]+)$`),
	"drop":   regexp.MustCompile(`^drop //([^ :]*):([^ :]+)$`),
	"budget": regexp.MustCompile(`^budget (0|-?[1-9][0-9]*)$`),
	"impact": regexp.MustCompile(`^impact(?: [^ ]+)*$`),
	"cones":  regexp.MustCompile(`^cones$`), "build": regexp.MustCompile(`^build$`), "closure": regexp.MustCompile(`^closure$`),
	"profile": regexp.MustCompile(`^profile$`), "files": regexp.MustCompile(`^files$`),
}

var componentForm = regexp.MustCompile(`^[A-Za-z0-9._-]{1,32}$`)

func isComponent(s string) bool {
	return componentForm.MatchString(s) && s != "." && s != ".." && s != "..."
}

func isPath(p string) bool {
	return len(p) <= 120 && len(pieces(p)) <= 12 && !slices.ContainsFunc(pieces(p), func(s string) bool { return !isComponent(s) })
}

// pathOf is the path of a word, which is never empty.
func pathOf(word string) (string, bool) {
	if word == "." {
		return "", true
	}
	return word, isPath(word)
}

func numberOf(word string) (int, bool) {
	n, _ := new(big.Int).SetString(word, 10)
	return int(n.Int64()), n.IsInt64()
}

func number(e int) []string { return []string{fmt.Sprintf("error %d", e)} }

func ok() []string { return []string{"ok"} }

func (m *model) do(line string) []string {
	if strings.Contains(line, "\n") {
		return number(18)
	}
	words := slices.DeleteFunc(strings.Split(line, " "), func(w string) bool { return w == "" })
	if len(words) == 0 || words[0][0] == '#' {
		return nil
	}
	form, known := lineForms[words[0]]
	if !known {
		return number(18)
	}
	found := form.FindStringSubmatch(strings.Join(words, " "))
	if found == nil {
		return number(18)
	}
	switch found := found[1:]; words[0] {
	case "put", "say", "cut":
		return m.change(words[0], found)
	case "want", "drop":
		return m.label(words[0], api.Label{Pkg: found[0], Name: found[1]})
	case "budget":
		n, is := numberOf(found[0])
		if !is {
			return number(18)
		}
		m.budget = n
		return ok()
	case "impact":
		return m.impact(words[1:])
	default:
		return m.ask(words[0])
	}
}

func (m *model) ask(what string) []string {
	switch what {
	case "cones", "profile":
		k, fault := m.cones()
		if fault != "" {
			return []string{fault}
		}
		if lines := profileOf(k); what == "profile" && sizeOf(lines) > 65536 {
			return number(18)
		} else if what == "profile" {
			return lines
		}
		line := "cones"
		for _, c := range k {
			line += " " + or(c, ".")
		}
		return []string{line}
	case "build":
		return m.build(m.wanted())
	case "closure":
		ps, fault := m.closure(m.wanted())
		if fault != "" {
			return []string{fault}
		}
		return []string{strings.Join(append([]string{"closure"}, ps...), " ")}
	default:
		return m.list()
	}
}

// Changes.

func (m *model) change(what string, found []string) []string {
	p, is := pathOf(found[0])
	if !is {
		return number(18)
	}
	f := api.File{Path: p}
	switch what {
	case "cut":
		if _, there := m.files[p]; !there {
			return number(20)
		}
		delete(m.files, p)
		return ok()
	case "put":
		var isBlob, isSize bool
		f.Blob, isBlob = numberOf(found[1])
		f.Size, isSize = numberOf(found[2])
		if !isBlob || !isSize {
			return number(18)
		}
		if p == "" || baseOf(p) == "TARGETS" || f.Blob > 1<<60 || f.Size > 1<<62 {
			return number(8)
		}
	case "say":
		text, _ := hex.DecodeString(strings.Trim(found[1], "-"))
		f.Text, f.Size = string(text), len(text)
		if baseOf(p) != "TARGETS" {
			return number(8)
		}
	}
	return m.lay(f)
}

func (m *model) lay(f api.File) []string {
	for p := range m.files {
		if p != f.Path && (isWithin(p, f.Path) || isWithin(f.Path, p)) {
			return number(9)
		}
	}
	if _, there := m.files[f.Path]; !there && len(m.files) == 512 {
		return number(9)
	}
	m.files[f.Path] = f
	return ok()
}

func (m *model) label(what string, a api.Label) []string {
	switch {
	case !isPath(a.Pkg) || !isComponent(a.Name):
		return number(18)
	case what == "want" && m.labels[a]:
		return number(19)
	case what == "want" && len(m.labels) == 64:
		return number(6)
	case what == "want":
		m.labels[a] = true
	case !m.labels[a]:
		return number(20)
	default:
		delete(m.labels, a)
	}
	return ok()
}

func (m *model) wanted() []api.Label { return slices.Collect(maps.Keys(m.labels)) }

// paths are those of all files, in their order.
func (m *model) paths() []string { return slices.SortedFunc(maps.Keys(m.files), byPieces) }

func (m *model) list() []string {
	var lines []string
	for _, p := range m.paths() {
		f := m.files[p]
		line := fmt.Sprintf("= f %s %d %d", p, f.Blob, f.Size)
		if baseOf(p) == "TARGETS" {
			line = fmt.Sprintf("= t %s %x", p, f.Text)
		}
		lines = append(lines, line)
	}
	return lines
}

// The build.

// says: what does the manifest of a package say, if there is one?
func (m *model) says(pkg string) (saying, bool) {
	f, there := m.files[joined(pkg, "TARGETS")]
	s, known := m.book[f.Text]
	if there && !known {
		panic("the oracle was not told of a text: " + f.Text)
	}
	return s, there
}

func (m *model) target(a api.Label) (api.Target, bool) {
	s, _ := m.says(a.Pkg)
	for _, x := range s.targets {
		if x.Name == a.Name {
			return x, true
		}
	}
	return api.Target{}, false
}

// reached are all labels that some lead to, and these, rising.
func (m *model) reached(from []api.Label) []api.Label {
	met := slices.Clone(from)
	for i := 0; i < len(met); i++ {
		x, _ := m.target(met[i])
		for _, d := range x.Deps {
			if !slices.Contains(met, d) {
				met = append(met, d)
			}
		}
	}
	slices.SortFunc(met, byLabels)
	return slices.Compact(met)
}

// fault is the line of the first fault.
func (m *model) fault(in []api.Label) string {
	var bad []string
	for _, a := range in {
		if s, there := m.says(a.Pkg); there && s.at >= 0 {
			bad = append(bad, joined(a.Pkg, "TARGETS"))
		}
	}
	if len(bad) > 0 {
		p := slices.MinFunc(bad, byPieces)
		s, _ := m.says(dirOf(p))
		return fmt.Sprintf("fault 1 %s %d", p, s.at)
	}
	for _, ask := range []func(api.Label) string{m.missing, m.circle, m.unseen} {
		for _, a := range in {
			if f := ask(a); f != "" {
				return f
			}
		}
	}
	return ""
}

func (m *model) missing(a api.Label) string {
	x, there := m.target(a)
	if !there {
		return "fault 2 " + shown(a) + " -"
	}
	var lost []string
	for _, s := range x.Srcs {
		if _, there := m.files[joined(a.Pkg, s)]; !there && !strings.Contains(s, "*") {
			lost = append(lost, joined(a.Pkg, s))
		}
	}
	if len(lost) == 0 {
		return ""
	}
	return "fault 2 " + shown(a) + " " + slices.MinFunc(lost, byPieces)
}

// leadsTo: is there a way of one edge or more?
func (m *model) leadsTo(a, b api.Label) bool {
	x, _ := m.target(a)
	return slices.Contains(m.reached(x.Deps), b)
}

// circle is asked of rising labels: the first that leads to itself is the least of its part.
func (m *model) circle(a api.Label) string {
	if !m.leadsTo(a, a) {
		return ""
	}
	line := "fault 3"
	for _, b := range m.reached([]api.Label{a}) {
		if m.leadsTo(b, a) {
			line += " " + shown(b)
		}
	}
	return line
}

func (m *model) unseen(a api.Label) string {
	x, _ := m.target(a)
	for _, d := range slices.SortedFunc(slices.Values(x.Deps), byLabels) {
		y, _ := m.target(d)
		if d.Pkg != a.Pkg && !slices.ContainsFunc(y.See, func(s string) bool { return namesPackage(s, a.Pkg) }) {
			return "fault 4 " + shown(a) + " " + shown(d)
		}
	}
	return ""
}

func namesPackage(s, pkg string) bool {
	dir, tree := strings.CutSuffix(s, "/...")
	return s == "public" || s == "//..." || s == "//"+pkg || tree && strings.HasPrefix("//"+pkg+"/", dir+"/")
}

// names: does a source, written from the root, name the path?
func names(src, p string) bool {
	ahead, behind, star := strings.Cut(src, "*")
	if !star {
		return src == p
	}
	return baseOf(p) != "TARGETS" && len(p) >= len(ahead)+len(behind) && strings.HasPrefix(p, ahead) && strings.HasSuffix(p, behind) &&
		!strings.Contains(p[len(ahead):len(p)-len(behind)], "/")
}

// srcs are the paths of a label's sources.
func (m *model) srcs(a api.Label) []string {
	x, _ := m.target(a)
	var ps []string
	for p := range m.files {
		if slices.ContainsFunc(x.Srcs, func(s string) bool { return names(joined(a.Pkg, s), p) }) {
			ps = append(ps, p)
		}
	}
	slices.SortFunc(ps, byPieces)
	return ps
}

func (m *model) build(labels []api.Label) []string {
	todo := m.reached(labels)
	if f := m.fault(todo); f != "" {
		return []string{f}
	}
	var lines []string
	told := map[api.Label]bool{}
	for len(todo) > 0 {
		next := slices.IndexFunc(todo, func(a api.Label) bool {
			x, _ := m.target(a)
			return !slices.ContainsFunc(x.Deps, func(d api.Label) bool { return !told[d] })
		})
		a := todo[next]
		line := strings.Join(append([]string{shown(a)}, m.srcs(a)...), " ")
		x, _ := m.target(a)
		for _, d := range slices.SortedFunc(slices.Values(x.Deps), byLabels) {
			line += " " + shown(d)
		}
		lines = append(lines, line)
		told[a] = true
		todo = slices.Delete(todo, next, next+1)
	}
	return lines
}

func (m *model) closure(labels []api.Label) ([]string, string) {
	in := m.reached(labels)
	if f := m.fault(in); f != "" {
		return nil, f
	}
	var ps []string
	for _, a := range in {
		ps = append(append(ps, joined(a.Pkg, "TARGETS")), m.srcs(a)...)
	}
	slices.SortFunc(ps, byPieces)
	return slices.Compact(ps), ""
}

func (m *model) impact(words []string) []string {
	hit := map[string]bool{}
	for _, w := range words {
		p, is := pathOf(w)
		if !is {
			return number(18)
		}
		hit[p] = true
	}
	var told []api.Label
	for p := range m.files {
		s, there := m.says(dirOf(p))
		if baseOf(p) != "TARGETS" || !there {
			continue
		}
		for _, x := range s.targets {
			a := api.Label{Pkg: dirOf(p), Name: x.Name}
			if ps, _ := m.closure([]api.Label{a}); slices.ContainsFunc(ps, func(p string) bool { return hit[p] }) {
				told = append(told, a)
			}
		}
	}
	slices.SortFunc(told, byLabels)
	line := "impact"
	for _, a := range told {
		line += " " + shown(a)
	}
	return []string{line}
}

// Cones.

func (m *model) cones() ([]string, string) {
	if m.budget < 1 || len(m.labels) == 0 {
		return nil, "fault 6"
	}
	ps, fault := m.closure(m.wanted())
	if fault != "" {
		return nil, fault
	}
	k := coverOf(ps)
	for len(k) > m.budget {
		k = m.merged(k)
	}
	if m.cost(k).Cmp(most()) > 0 {
		return nil, "fault 5"
	}
	return k, ""
}

func coverOf(ps []string) []string {
	var dirs []string
	for _, p := range ps {
		if dirOf(p) != "" {
			dirs = append(dirs, dirOf(p))
		}
	}
	k := slices.DeleteFunc(slices.Clone(dirs), func(d string) bool {
		return slices.ContainsFunc(dirs, func(e string) bool { return e != d && isWithin(d, e) })
	})
	slices.SortFunc(k, byPieces)
	return slices.Compact(k)
}

func most() *big.Int { return new(big.Int).SetUint64(1<<63 - 1) }

// cost is the size of the view, as a number of any length.
func (m *model) cost(k []string) *big.Int {
	sum := new(big.Int)
	for p, f := range m.files {
		d := dirOf(p)
		if d == "" || slices.ContainsFunc(k, func(c string) bool { return isWithin(d, c) || isWithin(c, d) }) {
			sum.Add(sum, big.NewInt(int64(f.Size)))
		}
	}
	return sum
}

func common(p, q string) string {
	x, y := pieces(p), pieces(q)
	n := 0
	for n < min(len(x), len(y)) && x[n] == y[n] {
		n++
	}
	return strings.Join(x[:n], "/")
}

func mergedAt(k []string, p string) []string {
	m := append(slices.DeleteFunc(slices.Clone(k), func(c string) bool { return isWithin(c, p) }), p)
	slices.SortFunc(m, byPieces)
	return m
}

// merged takes the cheapest of the neighbours' meeting places; of equal ones the deepest, then the least.
func (m *model) merged(k []string) []string {
	best, cost := "", (*big.Int)(nil)
	for i := 1; i < len(k); i++ {
		p := common(k[i-1], k[i])
		c := m.cost(mergedAt(k, p))
		if c.Cmp(most()) > 0 {
			c = most()
		}
		better := cost == nil || c.Cmp(cost) < 0
		if cost != nil && c.Cmp(cost) == 0 {
			deeper := len(pieces(p)) - len(pieces(best))
			better = deeper > 0 || deeper == 0 && byPieces(p, best) < 0
		}
		if better {
			best, cost = p, c
		}
	}
	return mergedAt(k, best)
}

// profileOf has a line for each directory that is a cone or above one, and one behind it, if it is none.
func profileOf(k []string) []string {
	lines := []string{"= /*"}
	if slices.Contains(k, "") {
		return lines
	}
	lines = append(lines, "= !/*/")
	var dirs []string
	for _, c := range k {
		for ; c != ""; c = dirOf(c) {
			dirs = append(dirs, c)
		}
	}
	slices.SortFunc(dirs, byPieces)
	for _, d := range slices.Compact(dirs) {
		lines = append(lines, "= /"+d+"/")
		if !slices.Contains(k, d) {
			lines = append(lines, "= !/"+d+"/*/")
		}
	}
	return lines
}

// sizeOf is how long a text is whose lines are told: of each "= " is away, and a byte 10 there.
func sizeOf(lines []string) int { return len(strings.Join(lines, "")) - len(lines) }
