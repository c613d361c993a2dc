package cycle_test

import (
	"fmt"
	"math/rand"
	"runtime/debug"
	"slices"
	"strings"
	"testing"

	"copse/api"
	"copse/cycle"
	"copse/graph"
	"copse/label"
)

func lab(pkg, name string) api.Label { return api.Label{Pkg: pkg, Name: name} }

// one is a label of the root package; named are those of the letters.
func one(name string) api.Label { return lab("", name) }

func named(letters string) []api.Label {
	var l []api.Label
	for i := range len(letters) {
		l = append(l, one(letters[i:i+1]))
	}
	return l
}

// split are the parts of a text: "ab c" are a with b, and c.
func split(text string) [][]api.Label {
	var l [][]api.Label
	for _, w := range strings.Fields(text) {
		l = append(l, named(w))
	}
	return l
}

// numbered is the label of a number, so that labels rise as their numbers do.
func numbered(i int) api.Label { return lab("p/q", fmt.Sprintf("n%06d", i)) }

func upTo(n int) []api.Label {
	var l []api.Label
	for i := range n {
		l = append(l, numbered(i))
	}
	return l
}

// drawn makes a graph of a text: "ab" is an edge from a to b, "e" the node e.
func drawn(text string) *graph.Graph {
	g := graph.New()
	for _, w := range strings.Fields(text) {
		if len(w) == 1 {
			g.Node(one(w))
		} else {
			g.Edge(one(w[:1]), one(w[1:]))
		}
	}
	return g
}

// The oracle: the chapter's words over nodes and pairs between which ways lead.

type arrow struct{ from, to int }

type plain struct {
	nodes []api.Label // rising, each once
	edges map[arrow]bool
}

// bare has these nodes, in any order, and no edges.
func bare(nodes []api.Label) plain {
	l := slices.Clone(nodes)
	slices.SortFunc(l, byWords)
	return plain{slices.Compact(l), map[arrow]bool{}}
}

func pieces(p string) []string {
	if p == "" {
		return nil
	}
	return strings.Split(p, "/")
}

func byWords(a, b api.Label) int {
	if c := slices.Compare(pieces(a.Pkg), pieces(b.Pkg)); c != 0 {
		return c
	}
	if c := strings.Compare(a.Name, b.Name); c != 0 {
		return c
	}
	return strings.Compare(a.Pkg, b.Pkg)
}

func (p plain) edge(a, b api.Label) {
	p.edges[arrow{slices.Index(p.nodes, a), slices.Index(p.nodes, b)}] = true
}

// ways are all pairs between which one edge or more lead.
func (p plain) ways() [][]bool {
	w := make([][]bool, len(p.nodes))
	for i := range w {
		w[i] = make([]bool, len(p.nodes))
	}
	for e := range p.edges {
		w[e.from][e.to] = true
	}
	for over := range w {
		for a := range w {
			for b := range w {
				if w[a][over] && w[over][b] {
					w[a][b] = true
				}
			}
		}
	}
	return w
}

// parts begins one at each node that stands in none yet.
func (p plain) parts() [][]api.Label {
	w := p.ways()
	in := make([]bool, len(p.nodes))
	var all [][]api.Label
	for a := range p.nodes {
		if in[a] {
			continue
		}
		var part []api.Label
		for b := range p.nodes {
			if a == b || w[a][b] && w[b][a] {
				in[b] = true
				part = append(part, p.nodes[b])
			}
		}
		all = append(all, part)
	}
	return all
}

// first is that of the least node with a way back to itself.
func (p plain) first() ([]api.Label, bool) {
	w := p.ways()
	for a := range p.nodes {
		if w[a][a] {
			for _, part := range p.parts() {
				if slices.Contains(part, p.nodes[a]) {
					return part, true
				}
			}
		}
	}
	return nil, false
}

// made lays the nodes and edges in any order.
func (p plain) made() *graph.Graph {
	g := graph.New()
	for e := range p.edges {
		g.Edge(p.nodes[e.from], p.nodes[e.to])
	}
	for _, a := range p.nodes {
		g.Node(a)
	}
	return g
}

func (p plain) String() string {
	var l []string
	for e := range p.edges {
		l = append(l, fmt.Sprintf("%.20q to %.20q", p.nodes[e.from], p.nodes[e.to]))
	}
	slices.Sort(l)
	return fmt.Sprintf("%.20q %s", p.nodes, strings.Join(l, ", "))
}

func sameParts(a, b [][]api.Label) bool {
	return slices.EqualFunc(a, b, slices.Equal[[]api.Label])
}

func wantParts(t *testing.T, what string, g *graph.Graph, want [][]api.Label) {
	t.Helper()
	if got := cycle.Parts(g); !sameParts(got, want) {
		t.Errorf("P12.1: Parts of %.300s: %.300q, want %.300q", what, got, want)
	}
}

func wantFirst(t *testing.T, what string, g *graph.Graph, want []api.Label, ok bool) {
	t.Helper()
	if got, told := cycle.First(g); !slices.Equal(got, want) || told != ok {
		t.Errorf("P12.2: First of %.300s: %.300q, %v, want %.300q, %v", what, got, told, want, ok)
	}
}

func holds(t *testing.T, what string, g *graph.Graph, p plain) {
	t.Helper()
	wantParts(t, what, g, p.parts())
	first, ok := p.first()
	wantFirst(t, what, g, first, ok)
}

// same: have the two the same nodes and edges?
func same(g, h *graph.Graph) bool {
	l := g.Nodes()
	return slices.Equal(l, h.Nodes()) && !slices.ContainsFunc(l, func(a api.Label) bool {
		return !slices.Equal(g.Out(a), h.Out(a))
	})
}

// The chapter's examples.

func TestExample1(t *testing.T) {
	g := drawn("ab ba bc cc da e")
	wantParts(t, "the example", g, split("ab c d e"))
	wantFirst(t, "the example", g, named("ab"), true)
	g = drawn("ab bc cc da e")
	wantParts(t, "the example without ba", g, split("a b c d e"))
	wantFirst(t, "the example without ba", g, named("c"), true)
	g = drawn("ab bc da e")
	wantParts(t, "the example without ba and cc", g, split("a b c d e"))
	wantFirst(t, "the example without ba and cc", g, nil, false)
}

func TestExample2(t *testing.T) {
	g := graph.New()
	for i := range 4096 {
		g.Edge(numbered(i), numbered((i+1)%4096))
	}
	wantParts(t, "a ring of 4096", g, [][]api.Label{upTo(4096)})
	wantFirst(t, "a ring of 4096", g, upTo(4096), true)
}

func TestExampleWithoutAnEdge(t *testing.T) {
	for _, c := range []struct{ text, parts, first string }{
		{"ba bc cc da e", "a b c d e", "c"},
		{"ab bc cc da e", "a b c d e", "c"},
		{"ab ba cc da e", "ab c d e", "ab"},
		{"ab ba bc da e", "ab c d e", "ab"},
		{"ab ba bc cc e", "ab c e", "ab"},
		{"ab ba bc cc da", "ab c d", "ab"},
		{"ab ba bc cc da e bd", "abd c e", "abd"},
		{"ab ba bc cc da e ca", "abc d e", "abc"},
		{"ab ba bc cc da e cd", "abcd e", "abcd"},
		{"ab ba bc cc da e ed ce", "abcde", "abcde"},
	} {
		g := drawn(c.text)
		wantParts(t, c.text, g, split(c.parts))
		wantFirst(t, c.text, g, named(c.first), true)
	}
}

// P12.1

func TestWithoutEdges(t *testing.T) {
	g := graph.New()
	wantParts(t, "no nodes", g, nil)
	wantFirst(t, "no nodes", g, nil, false)
	wantParts(t, "no nodes turned about", g.Back(), nil)
	wantFirst(t, "no nodes turned about", g.Back(), nil, false)
	for _, text := range []string{"a", "c a b", "e d c b a", "b b a b a"} {
		g := drawn(text)
		var want [][]api.Label
		for _, a := range g.Nodes() {
			want = append(want, []api.Label{a})
		}
		wantParts(t, text, g, want)
		wantFirst(t, text, g, nil, false)
	}
}

func TestShapes(t *testing.T) {
	for _, c := range []struct{ what, text, parts, first string }{
		{"an edge to itself", "aa", "a", "a"},
		{"edges to themselves", "aa bb cc", "a b c", "a"},
		{"an edge to itself beside others", "a bb c", "a b c", "b"},
		{"an edge to itself in a ring", "aa ab ba", "ab", "ab"},
		{"no circle", "ab ac bd cd e", "a b c d e", ""},
		{"no circle, falling", "dc cb ba db ca", "a b c d", ""},
		{"each to all behind it", "ab ac ad bc bd cd", "a b c d", ""},
		{"a ring of two", "ab ba", "ab", "ab"},
		{"one ring", "ab bc cd da", "abcd", "abcd"},
		{"one ring, falling", "dc cb ba ad", "abcd", "abcd"},
		{"one ring, mixed", "ac cb bd da", "abcd", "abcd"},
		{"a ring behind a way", "ab bc cd db", "a bcd", "bcd"},
		{"a ring ahead of a way", "ab ba bc cd", "ab c d", "ab"},
		{"rings that meet in the least node", "ab ba ac ca ad da", "abcd", "abcd"},
		{"rings that meet in the last node", "da ad db bd dc cd", "abcd", "abcd"},
		{"longer rings that meet in one node", "ab bc ca cd de ec", "abcde", "abcde"},
		{"rings with one way between them", "ab ba bc cd dc", "ab cd", "ab"},
		{"rings with one way back between them", "ab ba cb cd dc", "ab cd", "ab"},
		{"rings with two ways between them", "ab ba ac bd cd dc", "ab cd", "ab"},
		{"rings with ways to and back", "ab ba bc cd dc da", "abcd", "abcd"},
		{"rings apart", "ab ba cd dc ef fe", "ab cd ef", "ab"},
		{"rings that interlace", "ad da be eb cf fc", "ad be cf", "ad"},
		{"rings that interlace, with ways", "ad da be eb cf fc ab bc", "ad be cf", "ad"},
		{"a ring inside a ring", "ab bc cd de ef fa cb", "abcdef", "abcdef"},
		{"a ring inside a ring, falling", "fe ed dc cb ba af de", "abcdef", "abcdef"},
		{"a ring cut short", "ab bc cd da ac", "abcd", "abcd"},
		{"all with all", "ab ac ad ba bc bd ca cb cd da db dc", "abcd", "abcd"},
		{"all with all and themselves", "aa ab ac ba bb bc ca cb cc", "abc", "abc"},
		{"found late, the least of all", "bc cd dz za az", "az b c d", "az"},
		{"found late, with a ring met ahead of it", "bc cb cz za az", "az bc", "az"},
		{"a way to a part that is done", "ab bc cb db dd ac", "a bc d", "bc"},
		{"two ways to a part that is done", "ab ba ca cb dc da cd", "ab cd", "ab"},
		{"an edge over a part that is done", "ab bc ad dc da", "ad b c", "ad"},
		{"a side way back", "ab bc cd db ce ef fa", "abcdef", "abcdef"},
		{"a side way to one side", "ab bc cd db ce ef fe", "a bcd ef", "bcd"},
		{"a way back to the middle", "ab bc cd de ec", "a b cde", "cde"},
		{"ways back that nest", "ab bc cd de ed dc cb", "a bcde", "bcde"},
		{"ways back that cross", "ab bc cd ca db", "abcd", "abcd"},
		{"a star", "ab ac ad", "a b c d", ""},
		{"a star of ways to and back", "ba bc bd ab cb db", "abcd", "abcd"},
	} {
		g := drawn(c.text)
		what := c.what + ": " + c.text
		wantParts(t, what, g, split(c.parts))
		wantFirst(t, what, g, named(c.first), c.first != "")
		wantParts(t, what+" turned about", g.Back(), split(c.parts))
		wantFirst(t, what+" turned about", g.Back(), named(c.first), c.first != "")
	}
}

func TestLaidTwice(t *testing.T) {
	for _, text := range []string{
		"ab ab ba ba bc bc cc cc da da e e", "e da cc bc ba ab e da cc bc ba ab", "a b c d e ab ba bc cc da a b c d e",
	} {
		wantParts(t, text, drawn(text), split("ab c d e"))
		wantFirst(t, text, drawn(text), named("ab"), true)
	}
	wantFirst(t, "an edge laid twice", drawn("ab ab"), nil, false)
	wantParts(t, "an edge laid twice", drawn("ab ab"), split("a b"))
}

// permuted calls with each order of the items.
func permuted(items []string, done int, call func()) {
	if done == len(items) {
		call()
		return
	}
	for i := done; i < len(items); i++ {
		items[done], items[i] = items[i], items[done]
		permuted(items, done+1, call)
		items[done], items[i] = items[i], items[done]
	}
}

func TestEdgesInAnyOrder(t *testing.T) {
	for _, c := range []struct{ text, parts, first string }{
		{"ab ba bc cc da e", "ab c d e", "ab"},
		{"bc cb cz za az dd", "az bc d", "az"},
		{"ab bc cd db ce ee", "a bcd e", "bcd"},
		{"ca cb ab bd ad e", "a b c d e", ""},
	} {
		items := strings.Fields(c.text)
		permuted(items, 0, func() {
			g := drawn(strings.Join(items, " "))
			wantParts(t, c.text, g, split(c.parts))
			wantFirst(t, c.text, g, named(c.first), c.first != "")
		})
	}
}

// One shape, with its letters changed about in all ways: whichever node is met first, the parts are the same sets.
func TestNodesInAnyOrder(t *testing.T) {
	for _, text := range []string{"ab bc ca cd de ed", "ab ba bc cc da e", "ab bc cd db ae ea", "ab bc ca ad de db"} {
		letters := strings.Split("abcde", "")
		permuted(letters, 0, func() {
			turned := strings.Map(func(r rune) rune {
				if r < 'a' {
					return r
				}
				return rune(letters[r-'a'][0])
			}, text)
			p := bare(named("abcde"))
			for _, w := range strings.Fields(turned) {
				if len(w) == 2 {
					p.edge(one(w[:1]), one(w[1:]))
				}
			}
			holds(t, turned, p.made(), p)
		})
	}
}

// P12.2

func TestFirst(t *testing.T) {
	for _, c := range []struct{ what, text, first string }{
		{"no circle", "ab bc cd e", ""},
		{"the least node in no circle", "ab bc cb", "bc"},
		{"the least nodes in no circle", "a b c de ed", "de"},
		{"the last node to itself", "ab bc cd dd", "d"},
		{"to itself ahead of a ring", "aa bc cb", "a"},
		{"a ring ahead of one to itself", "ab ba cc", "ab"},
		{"to itself between a ring's nodes", "ac ca bb", "ac"},
		{"to itself ahead of a ring's nodes", "bb cd dc ab", "b"},
		{"met the other way round", "ae ed de db bc cb", "bc"},
		{"met the other way round, to themselves", "ad dd dc cc cb bb", "b"},
		{"met the other way round, apart", "az zy yz ax xw wx", "wx"},
		{"two that share no node", "az za by yb", "az"},
		{"one that holds the least node, one that does not", "bc cb ca ad da", "ad"},
		{"one with the least node and one with more nodes", "bc cd de eb az za", "az"},
		{"one with more small nodes", "af fa bc cd db", "af"},
		{"the second of more nodes", "a bz zb cd dc", "bz"},
		{"a ring with one to itself inside", "a bc cb cc", "bc"},
	} {
		g := drawn(c.text)
		wantFirst(t, c.what+": "+c.text, g, named(c.first), c.first != "")
		wantFirst(t, c.what+" turned about: "+c.text, g.Back(), named(c.first), c.first != "")
	}
}

func TestFirstOfNoneIsNothing(t *testing.T) {
	for _, text := range []string{"", "a", "ab", "ab bc ac", "ba ca da e"} {
		if l, ok := cycle.First(drawn(text)); len(l) > 0 || ok {
			t.Errorf("P12.2: First of %q: %q, %v", text, l, ok)
		}
	}
}

// A graph that grows is asked again and again.
func TestAGraphThatGrows(t *testing.T) {
	g := drawn("a")
	for _, c := range []struct{ edge, parts, first string }{
		{"bc", "a b c", ""},
		{"cd", "a b c d", ""},
		{"ee", "a b c d e", "e"},
		{"db", "a bcd e", "bcd"},
		{"ab", "a bcd e", "bcd"},
		{"de", "a bcd e", "bcd"},
		{"ef", "a bcd e f", "bcd"},
		{"fe", "a bcd ef", "bcd"},
		{"ca", "abcd ef", "abcd"},
		{"fb", "abcdef", "abcdef"},
	} {
		g.Edge(one(c.edge[:1]), one(c.edge[1:]))
		wantParts(t, "up to "+c.edge, g, split(c.parts))
		wantFirst(t, "up to "+c.edge, g, named(c.first), c.first != "")
	}
}

// Labels of any bytes.

// strange are labels that may be and such that may not, near to one another.
func strange() []api.Label {
	return []api.Label{{}, lab("", "n"), lab("a", ""), lab("a/", "n"), lab("/a", "n"), lab("a//b", "n"), lab("a/../b", "n"), lab("..", "."),
		lab("a", "n"), lab("a", "N"), lab("a", "n/m"), lab("a", ":n"), lab("a:n", ""), lab("a:", "n"), lab("a", "nn"), lab("an", ""), lab("", "an"),
		lab("a-b", "n"), lab("a/b", "n"), lab("a0b", "n"), lab("ab", "n"), lab("A", "n"), lab("b", "a"), lab("a/b", "a"), lab("a", "z"),
		lab("é", "ü"), lab("e\u0301", "ü"), lab("\xff", "\xfe"), lab("\x00", "\x00"), lab("", "\x00"), lab("\x00", ""), lab("\xc3", "\xa9"), lab(" ", "\n"),
		lab(strings.Repeat("d/", 40)+"d", "n"), lab(strings.Repeat("/", 300), "n"), lab(strings.Repeat("/", 301), "n"),
		lab("a", strings.Repeat("n", 5000)), lab(strings.Repeat("p", 5000), "n"), lab(strings.Repeat("p", 5000)+"/", "n")}
}

func TestAnyLabelMayBeInAPart(t *testing.T) {
	l := strange()
	for _, a := range l {
		for _, b := range l {
			p := bare([]api.Label{a, b})
			p.edge(a, b)
			holds(t, fmt.Sprintf("%.50q to %.50q", a, b), p.made(), p)
			p.edge(b, a)
			holds(t, fmt.Sprintf("%.50q to %.50q and back", a, b), p.made(), p)
		}
	}
}

func TestPartsRiseByLabelsOrder(t *testing.T) {
	r := rand.New(rand.NewSource(1201))
	l := strange()
	for size := 1; size <= len(l); size++ {
		r.Shuffle(len(l), func(i, k int) { l[i], l[k] = l[k], l[i] })
		p := bare(l)
		for from := 0; from < len(l); from += size {
			ring := l[from:min(from+size, len(l))]
			for i, a := range ring {
				p.edge(a, ring[(i+1)%len(ring)])
			}
		}
		g := p.made()
		holds(t, fmt.Sprintf("strange labels in rings of %d", size), g, p)
		for _, part := range cycle.Parts(g) {
			if !slices.IsSortedFunc(part, label.Cmp) {
				t.Errorf("P12.1: a part does not rise by label.Cmp: %.300q", part)
			}
		}
	}
}

// Order is by components: a-b comes behind all below a, though its bytes are ahead of theirs.
func TestRisingIsByComponents(t *testing.T) {
	a, ab, dash, root := lab("a", "z"), lab("a/b", "a"), lab("a-b", "a"), lab("", "zz")
	g := graph.New()
	for _, e := range [][2]api.Label{{dash, ab}, {ab, a}, {a, root}, {root, dash}} {
		g.Edge(e[0], e[1])
	}
	wantParts(t, "a ring of packages", g, [][]api.Label{{root, a, ab, dash}})
	g = graph.New()
	for _, x := range []api.Label{dash, ab, root, a} {
		g.Edge(x, x)
	}
	wantParts(t, "packages alone", g, [][]api.Label{{root}, {a}, {ab}, {dash}})
	wantFirst(t, "packages alone", g, []api.Label{root}, true)
}

// Small worlds, each against the oracle.

func TestAllGraphsOfThree(t *testing.T) {
	l := []api.Label{lab("a", "b"), lab("", "c"), lab("a-b", "a")}
	for edges := range 1 << 9 {
		p := bare(l)
		for i := range 9 {
			if edges>>i&1 == 1 {
				p.edge(l[i/3], l[i%3])
			}
		}
		g := p.made()
		holds(t, p.String(), g, p)
		holds(t, p.String()+" turned about", g.Back().Back(), p)
	}
}

func TestAllGraphsOfFour(t *testing.T) {
	l := named("cadb")
	for edges := range 1 << 16 {
		p := bare(l)
		for i := range 16 {
			if edges>>i&1 == 1 {
				p.edge(l[i/4], l[i%4])
			}
		}
		holds(t, p.String(), p.made(), p)
	}
}

// Of five nodes all graphs are too many: those without edges to themselves, in steps.
func TestManyGraphsOfFive(t *testing.T) {
	l := named("abcde")
	for edges := 0; edges < 1<<20; edges += 41 {
		p := bare(l)
		bit := 0
		for i, a := range l {
			for k, b := range l {
				if i == k {
					continue
				}
				if edges>>bit&1 == 1 {
					p.edge(a, b)
				}
				bit++
			}
		}
		holds(t, p.String(), p.made(), p)
	}
}

// anyGraph has up to so many nodes, with few edges or many, in parts of any size.
func anyGraph(r *rand.Rand, most int) plain {
	var l []api.Label
	if r.Intn(3) == 0 {
		l = strange()
	} else {
		l = upTo(most)
	}
	r.Shuffle(len(l), func(i, k int) { l[i], l[k] = l[k], l[i] })
	l = l[:1+r.Intn(min(most, len(l)))]
	p := bare(l)
	back := r.Intn(3)
	for range r.Intn(2*len(l) + 1) {
		i, k := r.Intn(len(l)), r.Intn(len(l))
		if i < k || back == 2 || back == 1 && i-k < 4 {
			p.edge(l[i], l[k])
		}
	}
	return p
}

func TestManyGraphs(t *testing.T) {
	r := rand.New(rand.NewSource(1202))
	for range 4000 {
		p := anyGraph(r, 24)
		holds(t, p.String(), p.made(), p)
	}
}

// P12.3

func whatFollows(t *testing.T, g *graph.Graph) (circle bool) {
	t.Helper()
	nodes, parts := g.Nodes(), cycle.Parts(g)
	in := map[api.Label]int{}
	for i, part := range parts {
		for _, a := range part {
			if _, twice := in[a]; twice {
				t.Fatalf("P12.3: %.50q is in two parts of %.300q", a, parts)
			}
			in[a] = i
		}
	}
	if len(in) != len(nodes) {
		t.Fatalf("P12.3: parts %.300q of the nodes %.300q", parts, nodes)
	}
	reach := map[api.Label][]api.Label{}
	for _, a := range nodes {
		reach[a] = g.Reach([]api.Label{a})
	}
	led := map[arrow]bool{}
	for _, a := range nodes {
		for _, b := range nodes {
			both := slices.Contains(reach[a], b) && slices.Contains(reach[b], a)
			if both != (in[a] == in[b]) {
				t.Fatalf("P12.3: %.50q and %.50q in one part: %v, and reach each other: %v", a, b, in[a] == in[b], both)
			}
		}
		for _, b := range g.Out(a) {
			led[arrow{in[a], in[b]}] = true
		}
	}
	for e := range led {
		if e.from != e.to && led[arrow{e.to, e.from}] {
			t.Fatalf("P12.3: edges lead both ways between %.100q and %.100q", parts[e.from], parts[e.to])
		}
	}
	if back := cycle.Parts(g.Back()); !sameParts(back, parts) {
		t.Fatalf("P12.3: Parts of Back: %.300q, and not %.300q", back, parts)
	}
	_, order := g.Order()
	first, circle := cycle.First(g)
	if circle == order {
		t.Fatalf("P12.3: First: %.300q, %v, and Order tells %v", first, circle, order)
	}
	return circle
}

func TestWhatFollows(t *testing.T) {
	r := rand.New(rand.NewSource(1203))
	with, without := 0, 0
	for range 1500 {
		if whatFollows(t, anyGraph(r, 20).made()) {
			with++
		} else {
			without++
		}
	}
	if with < 200 || without < 200 {
		t.Errorf("%d graphs with circles and %d without: too few to tell", with, without)
	}
}

// Made with parts that are known ahead: rings, with ways between them that lead down alone.
func TestPartsThatAreKnown(t *testing.T) {
	r := rand.New(rand.NewSource(1204))
	for range 300 {
		l := upTo(60)
		r.Shuffle(len(l), func(i, k int) { l[i], l[k] = l[k], l[i] })
		g := graph.New()
		var want [][]api.Label
		for done := 0; done < len(l); {
			size := min(1+r.Intn(9), len(l)-done)
			ring := l[done : done+size]
			for i, a := range ring {
				g.Node(a)
				if size > 1 {
					g.Edge(a, ring[(i+1)%size])
				}
				for range r.Intn(3) {
					g.Edge(l[r.Intn(done+1)], a)
				}
			}
			want = append(want, slices.SortedFunc(slices.Values(ring), byWords))
			done += size
		}
		// The first edge to a ring may begin at its own first node, which makes a circle of one at most.
		slices.SortFunc(want, func(a, b []api.Label) int { return byWords(a[0], b[0]) })
		wantParts(t, "rings and ways down", g, want)
		whatFollows(t, g)
	}
}

// P12.4

// mixed are the numbers up to n, each once, in no plain order; n and 7919 share no divisor.
func mixed(n int) []int {
	var l []int
	for i := range n {
		l = append(l, i*7919%n)
	}
	return l
}

func rises(n int) []int {
	var l []int
	for i := range n {
		l = append(l, i)
	}
	return l
}

func falls(n int) []int {
	l := rises(n)
	slices.Reverse(l)
	return l
}

func alone(l []api.Label) [][]api.Label {
	var all [][]api.Label
	for i := range l {
		all = append(all, l[i:i+1])
	}
	return all
}

// shallow sets how deep calls may nest, so that a way gone by recursion would not come back.
func shallow(t *testing.T) {
	was := debug.SetMaxStack(1 << 20)
	t.Cleanup(func() { debug.SetMaxStack(was) })
}

func TestLongWays(t *testing.T) {
	shallow(t)
	const n = 1 << 16
	l := upTo(n)
	for what, order := range map[string][]int{"rising": rises(n), "falling": falls(n), "mixed": mixed(n)} {
		g := graph.New()
		for i := range n - 1 {
			g.Edge(l[order[i]], l[order[i+1]])
		}
		wantParts(t, "a long way, "+what, g, alone(l))
		wantFirst(t, "a long way, "+what, g, nil, false)
		g.Edge(l[order[n-1]], l[order[n-2]])
		two := []api.Label{l[min(order[n-1], order[n-2])], l[max(order[n-1], order[n-2])]}
		wantFirst(t, "a long way with a circle at its end, "+what, g, two, true)
		g.Edge(l[order[n-1]], l[order[0]])
		wantParts(t, "a long ring, "+what, g, [][]api.Label{l})
		wantFirst(t, "a long ring, "+what, g, l, true)
	}
}

// A long way with ways back: each node leads to the next and to the one ahead.
func TestLongWaysBack(t *testing.T) {
	shallow(t)
	const n = 30000
	l := upTo(n)
	for what, order := range map[string][]int{"rising": rises(n), "falling": falls(n), "mixed": mixed(n)} {
		both, halves := graph.New(), graph.New()
		var want [][]api.Label
		for i := range n - 1 {
			both.Edge(l[order[i]], l[order[i+1]])
			both.Edge(l[order[i+1]], l[order[i]])
			halves.Edge(l[order[i]], l[order[i+1]])
			if i%2 == 0 {
				halves.Edge(l[order[i+1]], l[order[i]])
				want = append(want, []api.Label{l[min(order[i], order[i+1])], l[max(order[i], order[i+1])]})
			}
		}
		slices.SortFunc(want, func(a, b []api.Label) int { return byWords(a[0], b[0]) })
		wantParts(t, "ways to and back, "+what, both, [][]api.Label{l})
		wantParts(t, "rings of two in a way, "+what, halves, want)
		wantFirst(t, "rings of two in a way, "+what, halves, want[0], true)
	}
}

func TestWideGraphs(t *testing.T) {
	const n = 4096
	l := upTo(n)
	hub := lab("hub", "hub")
	g := graph.New()
	for _, a := range l {
		g.Edge(hub, a)
	}
	wantParts(t, "a hub", g, append([][]api.Label{{hub}}, alone(l)...))
	wantFirst(t, "a hub", g, nil, false)
	for i, a := range l {
		if i%2 == 1 {
			g.Edge(a, hub)
		}
	}
	odd := []api.Label{hub}
	var want [][]api.Label
	for i, a := range l {
		if i%2 == 1 {
			odd = append(odd, a)
		} else {
			want = append(want, []api.Label{a})
		}
	}
	wantParts(t, "a hub with ways back", g, append([][]api.Label{odd}, want...))
	wantFirst(t, "a hub with ways back", g, odd, true)
}

func TestDenseGraph(t *testing.T) {
	const n = 150
	l := upTo(n)
	g := graph.New()
	for i := range n {
		for k := range i {
			g.Edge(l[k], l[i])
		}
	}
	wantParts(t, "each to all behind it", g, alone(l))
	g.Edge(l[100], l[50])
	want := append(alone(l[:50]), l[50:101])
	wantParts(t, "each to all behind it, and one back", g, append(want, alone(l[101:])...))
	wantFirst(t, "each to all behind it, and one back", g, l[50:101], true)
	g.Edge(l[n-1], l[0])
	wantParts(t, "each to all behind it, and all back", g, [][]api.Label{l})
}

func TestTheGraphStays(t *testing.T) {
	r := rand.New(rand.NewSource(1205))
	for range 600 {
		p := anyGraph(r, 16)
		g, was := p.made(), p.made()
		order, ok := g.Order()
		for range 2 {
			cycle.Parts(g)
			cycle.First(g)
			if !same(g, was) || !same(g.Back(), was.Back()) {
				t.Fatalf("P12.4: another graph behind the call than ahead of it: %s", p)
			}
			if l, told := g.Order(); !slices.Equal(l, order) || told != ok {
				t.Fatalf("P12.4: another order behind the call than ahead of it: %s", p)
			}
		}
		g.Edge(lab("new", "node"), g.Nodes()[0])
		was.Edge(lab("new", "node"), was.Nodes()[0])
		if !same(g, was) {
			t.Fatalf("P12.4: a graph that was asked takes an edge otherwise: %s", p)
		}
	}
}

// answers are all lists of two calls each.
func answers(g *graph.Graph) [][]api.Label {
	var all [][]api.Label
	for range 2 {
		all = append(all, cycle.Parts(g)...)
		first, _ := cycle.First(g)
		all = append(all, first)
	}
	return append(all, cycle.Parts(g.Back())...)
}

// fill writes over a list and its spare room; filled tells whether that is still there.
func fill(l []api.Label, mark api.Label) {
	for i := range l[:cap(l)] {
		l[:cap(l)][i] = mark
	}
}

func filled(l []api.Label, mark api.Label) bool {
	return !slices.ContainsFunc(l[:cap(l)], func(a api.Label) bool { return a != mark })
}

func checkApart(t *testing.T, p plain) {
	t.Helper()
	g := p.made()
	nodes := g.Nodes()
	all := answers(g)
	for i, l := range all {
		was := slices.Clone(l)
		for k := range i {
			if !filled(all[k], lab("mark", fmt.Sprint(k))) {
				t.Fatalf("P12.4: the answer %d of %s changed", k, p)
			}
		}
		if slices.ContainsFunc(was, func(a api.Label) bool { return a.Pkg == "mark" }) {
			t.Fatalf("P12.4: the answer %d of %s shares memory with one ahead of it", i, p)
		}
		fill(l, lab("mark", fmt.Sprint(i)))
	}
	for i, l := range all {
		if !filled(l, lab("mark", fmt.Sprint(i))) {
			t.Fatalf("P12.4: the room behind the answer %d of %s is another's", i, p)
		}
	}
	if !slices.Equal(nodes, p.nodes) || !same(g, p.made()) {
		t.Fatalf("P12.4: an answer of %s shares memory with the graph", p)
	}
	holds(t, "a graph whose answers were written over: "+p.String(), g, p)
	for _, a := range p.nodes {
		g.Edge(a, lab("new", "node"))
		g.Edge(lab("new", "node"), a)
	}
	for i, l := range all {
		if !filled(l, lab("mark", fmt.Sprint(i))) {
			t.Fatalf("P12.4: the answer %d of %s was kept, and changed as the graph grew", i, p)
		}
	}
}

func TestAnswersAreNewMemory(t *testing.T) {
	r := rand.New(rand.NewSource(1206))
	checkApart(t, bare(nil))
	checkApart(t, bare(upTo(20)))
	for range 500 {
		checkApart(t, anyGraph(r, 14))
	}
}

// Lists that grow may not grow into one another.
func TestPartsMayGrow(t *testing.T) {
	for _, text := range []string{"ab ba bc cc da e", "a b c d", "ab bc ca de ef fd", "ad da be eb cf fc"} {
		parts := cycle.Parts(drawn(text))
		want := cycle.Parts(drawn(text))
		for i := range parts {
			parts[i] = append(parts[i], named("xyz")...)
			want[i] = slices.Concat(want[i], named("xyz"))
		}
		if !sameParts(parts, want) {
			t.Errorf("P12.4: parts of %s that grew: %q, want %q", text, parts, want)
		}
	}
}

// A list of lists is new too: its places are no other call's.
func TestListsOfPartsAreApart(t *testing.T) {
	g := drawn("ab ba bc cc da e")
	one, two := cycle.Parts(g), cycle.Parts(g)
	for i := range one[:cap(one)] {
		one[:cap(one)][i] = named("x")
	}
	if !sameParts(two, split("ab c d e")) {
		t.Errorf("P12.4: two calls share a list of parts: %q", two)
	}
	wantParts(t, "behind a list written over", g, split("ab c d e"))
}

// A map may be gone through in any order: nothing of that is to be seen.
func TestAnswersAreAlwaysTheSame(t *testing.T) {
	r := rand.New(rand.NewSource(1207))
	for range 30 {
		p := anyGraph(r, 30)
		want := answers(p.made())
		for range 20 {
			if got := answers(p.made()); !sameParts(got, want) {
				t.Fatalf("P12.1: told again: %.300q, want %.300q", got, want)
			}
		}
	}
}
