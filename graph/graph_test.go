package graph_test

import (
	"fmt"
	"math/rand"
	"slices"
	"strings"
	"testing"

	"copse/api"
	"copse/graph"
	"copse/label"
)

func lab(pkg, name string) api.Label { return api.Label{Pkg: pkg, Name: name} }

// one is a label of the root package; named are those of the letters.
func one(name string) api.Label { return lab("", name) }

func named(letters string) []api.Label {
	var l []api.Label
	for i := range len(letters) {
		l = append(l, one(letters[i:i+1]))
	}
	return l
}

// numbered is the label of a number, so that labels rise as their numbers do.
func numbered(i int) api.Label { return lab("p/q", fmt.Sprintf("n%06d", i)) }

// words are all texts of up to so many of the parts.
func words(most int, parts ...string) []string {
	all, last := []string{""}, []string{""}
	for range most {
		var next []string
		for _, s := range last {
			for _, p := range parts {
				next = append(next, s+p)
			}
		}
		all = append(all, next...)
		last = next
	}
	slices.Sort(all)
	return slices.Compact(all)
}

// drawn makes a graph of a text: "ab" is an edge from a to b, "e" the node e.
func drawn(text string) *graph.Graph {
	g := graph.New()
	for _, w := range strings.Fields(text) {
		if len(w) == 1 {
			g.Node(one(w))
		} else {
			g.Edge(one(w[:1]), one(w[1:]))
		}
	}
	return g
}

// The oracle: the chapter's words over two bare sets.

type arrow struct{ from, to api.Label }

type plain struct {
	nodes map[api.Label]bool
	edges map[arrow]bool
}

func bare() plain { return plain{map[api.Label]bool{}, map[arrow]bool{}} }

func (p plain) node(a api.Label) { p.nodes[a] = true }

func (p plain) edge(a, b api.Label) {
	p.nodes[a], p.nodes[b] = true, true
	p.edges[arrow{a, b}] = true
}

func pieces(p string) []string {
	if p == "" {
		return nil
	}
	return strings.Split(p, "/")
}

func byWords(a, b api.Label) int {
	if c := slices.Compare(pieces(a.Pkg), pieces(b.Pkg)); c != 0 {
		return c
	}
	if c := strings.Compare(a.Name, b.Name); c != 0 {
		return c
	}
	return strings.Compare(a.Pkg, b.Pkg)
}

func (p plain) kept(keep func(a api.Label) bool) []api.Label {
	var l []api.Label
	for a := range p.nodes {
		if keep(a) {
			l = append(l, a)
		}
	}
	slices.SortFunc(l, byWords)
	return l
}

func (p plain) all() []api.Label {
	return p.kept(func(api.Label) bool { return true })
}

func (p plain) out(a api.Label) []api.Label {
	return p.kept(func(b api.Label) bool { return p.edges[arrow{a, b}] })
}

// ways are all pairs between which one edge or more lead.
func (p plain) ways() map[arrow]bool {
	w := map[arrow]bool{}
	for e := range p.edges {
		w[e] = true
	}
	l := p.all()
	for _, over := range l {
		for _, a := range l {
			for _, b := range l {
				if w[arrow{a, over}] && w[arrow{over, b}] {
					w[arrow{a, b}] = true
				}
			}
		}
	}
	return w
}

func (p plain) reach(ways map[arrow]bool, from []api.Label) []api.Label {
	return p.kept(func(b api.Label) bool {
		return slices.ContainsFunc(from, func(a api.Label) bool {
			return a == b || ways[arrow{a, b}]
		})
	})
}

func (p plain) order() ([]api.Label, bool) {
	l := p.all()
	var told []api.Label
	for len(told) < len(l) {
		at := slices.IndexFunc(l, func(a api.Label) bool {
			for e := range p.edges {
				if e.from == a && !slices.Contains(told, e.to) {
					return false
				}
			}
			return !slices.Contains(told, a)
		})
		if at < 0 {
			return nil, false
		}
		told = append(told, l[at])
	}
	return told, true
}

func (p plain) back() plain {
	b := bare()
	for a := range p.nodes {
		b.node(a)
	}
	for e := range p.edges {
		b.edge(e.to, e.from)
	}
	return b
}

func (p plain) made() *graph.Graph {
	g := graph.New()
	for a := range p.nodes {
		g.Node(a)
	}
	for e := range p.edges {
		g.Edge(e.from, e.to)
	}
	return g
}

func want(t *testing.T, what string, got, want []api.Label) {
	t.Helper()
	if !slices.Equal(got, want) {
		t.Errorf("%s: %.300q, want %.300q", what, got, want)
	}
}

func wantOrder(t *testing.T, what string, g *graph.Graph, l []api.Label, ok bool) {
	t.Helper()
	got, told := g.Order()
	if !slices.Equal(got, l) || told != ok {
		t.Errorf("P11.4: Order of %s: %.300q, %v, want %.300q, %v", what, got, told, l, ok)
	}
}

// holds asks a graph all there is to ask, but for Reach of more than one label.
func holds(t *testing.T, what string, g *graph.Graph, p plain) {
	t.Helper()
	l := p.all()
	want(t, "P11.2: Nodes of "+what, g.Nodes(), l)
	ways := p.ways()
	for _, a := range append(slices.Clone(l), lab("no", "node")) {
		want(t, fmt.Sprintf("P11.2: Out(%q) of %s", a, what), g.Out(a), p.out(a))
		want(t, fmt.Sprintf("P11.3: Reach(%q) of %s", a, what), g.Reach([]api.Label{a}), p.reach(ways, []api.Label{a}))
	}
	want(t, "P11.3: Reach of nothing in "+what, g.Reach(nil), nil)
	want(t, "P11.3: Reach of all in "+what, g.Reach(l), l)
	order, ok := p.order()
	wantOrder(t, what, g, order, ok)
}

// same: have the two the same nodes and edges?
func same(g, h *graph.Graph) bool {
	l := g.Nodes()
	return slices.Equal(l, h.Nodes()) && !slices.ContainsFunc(l, func(a api.Label) bool {
		return !slices.Equal(g.Out(a), h.Out(a))
	})
}

// The chapter's examples.

const example = "ab ac bd cd e"

func TestExample1(t *testing.T) {
	g := drawn(example)
	want(t, "P11.2: Nodes", g.Nodes(), named("abcde"))
	want(t, "P11.2: Out(a)", g.Out(one("a")), named("bc"))
	want(t, "P11.2: Out(d)", g.Out(one("d")), nil)
	want(t, "P11.2: Out(x)", g.Out(one("x")), nil)
	want(t, "P11.3: Reach(b)", g.Reach(named("b")), named("bd"))
	want(t, "P11.3: Reach(c, x)", g.Reach(named("cx")), named("cd"))
	want(t, "P11.3: Reach of nothing", g.Reach(nil), nil)
}

func TestExample2(t *testing.T) {
	g := drawn(example)
	wantOrder(t, example, g, named("dbcae"), true)
	g.Edge(one("d"), one("d"))
	wantOrder(t, example+" dd", g, nil, false)
}

func TestExample3(t *testing.T) {
	b := drawn(example).Back()
	want(t, "P11.5: Back's Out(d)", b.Out(one("d")), named("bc"))
	want(t, "P11.5: Back's Reach(d)", b.Reach(named("d")), named("abcd"))
}

// P11.1

func TestNew(t *testing.T) {
	g := graph.New()
	holds(t, "a new graph", g, bare())
	holds(t, "a new graph turned about", g.Back(), bare())
	want(t, "P11.3: Reach of no nodes", g.Reach(named("abc")), nil)
	want(t, "P11.2: Out of the zero label", g.Out(api.Label{}), nil)
	holds(t, "a new graph that was asked", g, bare())
}

func TestAskingMakesNoNode(t *testing.T) {
	g := drawn("ab c")
	g.Out(one("x"))
	g.Reach(named("xya"))
	g.Order()
	g.Back().Node(one("z"))
	want(t, "P11.1: Nodes", g.Nodes(), named("abc"))
	want(t, "P11.1: Reach(x)", g.Reach(named("x")), nil)
}

func TestNodes(t *testing.T) {
	g, p := graph.New(), bare()
	for _, a := range named("dbaecdab") {
		g.Node(a)
		p.node(a)
		holds(t, fmt.Sprintf("nodes up to %q", a), g, p)
	}
}

func TestANodeKeepsItsEdges(t *testing.T) {
	g := drawn("ab ac ba")
	before := drawn("ab ac ba")
	for _, a := range named("abc") {
		g.Node(a)
	}
	if !same(g, before) {
		t.Errorf("P11.1: Node of nodes: %q, %q", g.Nodes(), g.Out(one("a")))
	}
}

func TestAnEdgeMakesBothNodes(t *testing.T) {
	for _, text := range []string{"ab", "ba", "aa"} {
		g, p := drawn(text), bare()
		p.edge(one(text[:1]), one(text[1:]))
		holds(t, text, g, p)
	}
	holds(t, "no edge", drawn("a b"), plain{map[api.Label]bool{one("a"): true, one("b"): true}, nil})
}

func TestLaidTwice(t *testing.T) {
	want := drawn("ab ac bd cd dd e")
	for _, text := range []string{
		"ab ac bd cd dd e ab",
		"ab ab ab ac ac bd bd cd dd dd e e",
		"a b c d e ab ac bd cd dd a b c d e",
		"dd e cd bd ac ab dd e cd bd ac ab",
	} {
		if g := drawn(text); !same(g, want) || !same(g.Back(), want.Back()) {
			t.Errorf("P11.1: %s: %q, %q", text, g.Nodes(), g.Out(one("a")))
		}
	}
}

// permuted calls with each order of the items.
func permuted(items []string, done int, call func()) {
	if done == len(items) {
		call()
		return
	}
	for i := done; i < len(items); i++ {
		items[done], items[i] = items[i], items[done]
		permuted(items, done+1, call)
		items[done], items[i] = items[i], items[done]
	}
}

func TestEdgesInAnyOrder(t *testing.T) {
	for _, text := range []string{"ab ac ad bd cd e", "aa ab ba bc ca f", "ea eb ec ed ee f"} {
		first := drawn(text)
		order, ok := first.Order()
		items := strings.Fields(text)
		permuted(items, 0, func() {
			g := drawn(strings.Join(items, " "))
			if !same(g, first) {
				t.Fatalf("P11.1: %v is not %s", items, text)
			}
			wantOrder(t, text, g, order, ok)
		})
	}
}

// P11.2: any label may be a node.

// strange are labels that may be and such that may not, near to one another.
func strange() []api.Label {
	l := []api.Label{{}, lab("", "n"), lab("a", ""), lab("a/", "n"), lab("/a", "n"), lab("a//b", "n"), lab("a/../b", "n"), lab("..", "."),
		lab("a", "n"), lab("a", "N"), lab("a", "n/m"), lab("a", ":n"), lab("a:n", ""), lab("a:", "n"), lab("a", "nn"), lab("an", ""), lab("", "an"),
		lab("a-b", "n"), lab("a/b", "n"), lab("a0b", "n"), lab("ab", "n"), lab("A", "n"), lab("b", "a"), lab("a/b", "a"), lab("a", "z"),
		lab("é", "ü"), lab("e\u0301", "ü"), lab("\xff", "\xfe"), lab("\x00", "\x00"), lab("", "\x00"), lab("\x00", ""), lab("\xc3", "\xa9"), lab(" ", "\n"),
		lab(strings.Repeat("d/", 40)+"d", "n"), lab(strings.Repeat("/", 300), "n"), lab(strings.Repeat("/", 301), "n"),
		lab("a", strings.Repeat("n", 5000)), lab(strings.Repeat("p", 5000), "n"), lab(strings.Repeat("p", 5000)+"/", "n")}
	return l
}

// near are all labels of short texts.
func near() []api.Label {
	var l []api.Label
	for _, pkg := range words(4, "/", "a", "-") {
		for _, name := range []string{"", "a", "/"} {
			l = append(l, lab(pkg, name))
		}
	}
	for _, pkg := range words(2, "\x00", "/", "0", "\xff", "é", ".") {
		for _, name := range words(1, "\x00", "0", "\xff") {
			l = append(l, lab(pkg, name))
		}
	}
	slices.SortFunc(l, byWords)
	return slices.Compact(l)
}

func TestAnyLabelMayBeANode(t *testing.T) {
	l := strange()
	g, p := graph.New(), bare()
	for i, a := range l {
		g.Edge(a, l[(i*7+3)%len(l)])
		p.edge(a, l[(i*7+3)%len(l)])
	}
	holds(t, "strange labels", g, p)
	holds(t, "strange labels turned about", g.Back(), p.back())
	for _, a := range l {
		for _, b := range l {
			h := graph.New()
			h.Edge(a, b)
			if out := h.Out(a); len(out) != 1 || out[0] != b {
				t.Errorf("P11.2: Out(%.50q): %.50q, want %.50q", a, out, b)
			}
			if out := h.Out(b); a != b && len(out) != 0 {
				t.Errorf("P11.2: Out(%.50q): %.50q, want none", b, out)
			}
		}
	}
}

func TestLabelsRise(t *testing.T) {
	r := rand.New(rand.NewSource(1101))
	for _, l := range [][]api.Label{strange(), near()} {
		sorted := slices.Clone(l)
		slices.SortFunc(sorted, byWords)
		for range 20 {
			r.Shuffle(len(l), func(i, k int) { l[i], l[k] = l[k], l[i] })
			g, star := graph.New(), graph.New()
			hub := lab("hub", "hub")
			for _, a := range l {
				g.Node(a)
				star.Edge(hub, a)
			}
			want(t, "P11.2: Nodes", g.Nodes(), sorted)
			wantOrder(t, "labels alone", g, sorted, true)
			want(t, "P11.2: Out", star.Out(hub), sorted)
			want(t, "P11.3: Reach", g.Reach(l), sorted)
			want(t, "P11.5: Back's Nodes", g.Back().Nodes(), sorted)
			wantOrder(t, "a star", star, append(slices.Clone(sorted), hub), true)
		}
	}
}

// Rising is by label.Cmp, and where that calls two labels equal that are not one, by the bytes of their packages.
func TestRisingIsByLabelsOrder(t *testing.T) {
	l := append(near(), strange()...)
	for _, a := range l {
		for _, b := range l {
			if a == b {
				continue
			}
			c := label.Cmp(a, b)
			if c == 0 {
				c = strings.Compare(a.Pkg, b.Pkg)
			}
			g := graph.New()
			g.Node(a)
			g.Node(b)
			got := g.Nodes()
			if len(got) != 2 || c < 0 && got[0] != a || c > 0 && got[0] != b || got[0] == got[1] {
				t.Fatalf("P11.2: Nodes of %.50q and %.50q: %.100q", a, b, got)
			}
		}
	}
}

func TestOut(t *testing.T) {
	g := drawn("ad ab ac ab ca cc e")
	want(t, "P11.2: Out(a)", g.Out(one("a")), named("bcd"))
	want(t, "P11.2: Out(b)", g.Out(one("b")), nil)
	want(t, "P11.2: Out(c)", g.Out(one("c")), named("ac"))
	want(t, "P11.2: Out(e)", g.Out(one("e")), nil)
	for _, a := range []api.Label{{}, one("x"), one("A"), one("aa"), lab("a", ""), lab("/", "a"), lab("", "a\x00"), lab("a", "a")} {
		want(t, fmt.Sprintf("P11.2: Out(%q)", a), g.Out(a), nil)
	}
}

// P11.3

func TestReach(t *testing.T) {
	for _, c := range []struct{ text, from, want string }{
		{"ab bc cd", "a", "abcd"},
		{"ab bc cd", "c", "cd"},
		{"ab bc cd", "d", "d"},
		{"ab bc cd", "ca", "abcd"},
		{"ab bc cd", "dddd", "d"},
		{"ab bc cd", "dcdcdc", "cd"},
		{"ab bc cd", "", ""},
		{"ab bc cd", "xyz", ""},
		{"ab bc cd", "xcyczc", "cd"},
		{"a b c d", "db", "bd"},
		{"a b c d", "dbcaxabcd", "abcd"},
		{"ab ac bd cd de", "a", "abcde"},
		{"ab ac bd cd de", "cb", "bcde"},
		{"aa b", "a", "a"},
		{"aa b", "b", "b"},
		{"ab ba c", "b", "ab"},
		{"ab bc ca cd e", "b", "abcd"},
		{"ab bc ca cd e", "d", "d"},
		{"ab bc ca cd e", "eb", "abcde"},
		{"ea ab ba fe", "f", "abef"},
		{"ab cd", "a", "ab"},
		{"ab cd", "ac", "abcd"},
		{"zy yx xw", "z", "wxyz"},
	} {
		g := drawn(c.text)
		want(t, fmt.Sprintf("P11.3: Reach(%q) of %s", c.from, c.text), g.Reach(named(c.from)), named(c.want))
	}
}

func TestReachOfManyAtOnce(t *testing.T) {
	g, h := graph.New(), graph.New()
	for i := range 300 {
		g.Edge(numbered(i), numbered(i+1000))
		h.Node(numbered(i))
	}
	var from, all []api.Label
	for i := range 20000 {
		from = append(from, numbered((i*7919)%5000))
	}
	for i := range 300 {
		all = append(all, numbered(i))
	}
	want(t, "P11.3: Reach of many, nodes alone", h.Reach(from), all)
	for i := range 300 {
		all = append(all, numbered(i+1000))
	}
	want(t, "P11.3: Reach of many", g.Reach(from), all)
	want(t, "P11.3: Reach of one many times", g.Reach(slices.Repeat(from[:1], 50000)), []api.Label{numbered(0), numbered(1000)})
}

// P11.4

func TestOrder(t *testing.T) {
	for _, c := range []struct{ text, want string }{
		{"a", "a"},
		{"c b a", "abc"},
		{"ab", "ba"},
		{"ba", "ab"},
		{"ab bc cd", "dcba"},
		{"dc cb ba", "abcd"},
		{"ac b", "bca"},
		{"az b c", "bcza"},
		{"ad ae bd ce f", "dbeacf"},
		{"ab ac bd cd", "dbca"},
		{"ae be ce de", "eabcd"},
		{"ea eb ec ed", "abcde"},
		{"ab ac ad bc bd cd", "dcba"},
		{"az ay bz by", "yzab"},
		{"bz ay", "yazb"},
		{"ac bd", "cadb"},
		{"ac bd da", "cadb"},
		{"ac bd cd", "dbca"},
	} {
		wantOrder(t, c.text, drawn(c.text), named(c.want), true)
	}
}

func TestOrderOfCircles(t *testing.T) {
	for _, text := range []string{
		"aa", "aa b c", "ab bb", "ba bb", "ab ba", "ab ba c", "ab bc ca", "ab bc ca ad", "da ab bc ca", "ab bc cd da",
		"ab cd ef fe", "za zb yz zy a", "ab bc cb", "bc cb ca", "ab ac bd cd de ea", "ab bc cd dd", "aa bb cc dd", "ab ba bc cb cd dc",
	} {
		wantOrder(t, text, drawn(text), nil, false)
		wantOrder(t, text+" turned about", drawn(text).Back(), nil, false)
	}
	for _, n := range []int{1, 2, 3, 50, 4096} {
		g := graph.New()
		for i := range n {
			g.Edge(numbered(i), numbered((i+1)%n))
			g.Node(numbered(i + n))
		}
		wantOrder(t, fmt.Sprintf("a ring of %d", n), g, nil, false)
		if l := g.Reach([]api.Label{numbered(n / 2)}); len(l) != n || l[0] != numbered(0) || l[n-1] != numbered(n-1) {
			t.Errorf("P11.3: Reach in a ring of %d: %d", n, len(l))
		}
	}
}

// An order may come to an end, be cut off by an edge, and never come back, for no edge goes away.
func TestOrderWhileAGraphGrows(t *testing.T) {
	g := graph.New()
	wantOrder(t, "nothing", g, nil, true)
	for _, c := range []struct {
		edge, want string
		ok         bool
	}{{"ab", "ba", true}, {"cd", "badc", true}, {"bd", "dbac", true}, {"ac", "dbca", true}, {"da", "", false}, {"ef", "", false}} {
		g.Edge(one(c.edge[:1]), one(c.edge[1:]))
		wantOrder(t, "a graph with "+c.edge, g, named(c.want), c.ok)
	}
}

func TestLongWays(t *testing.T) {
	const n = 100000
	up, down := graph.New(), graph.New()
	var rise []api.Label
	for i := range n {
		rise = append(rise, numbered(i))
	}
	for i := range n - 1 {
		up.Edge(rise[i], rise[i+1])
		down.Edge(rise[i+1], rise[i])
	}
	fall := slices.Clone(rise)
	slices.Reverse(fall)
	wantOrder(t, "a way up", up, fall, true)
	wantOrder(t, "a way down", down, rise, true)
	want(t, "P11.3: Reach along a way up", up.Reach(rise[:1]), rise)
	want(t, "P11.3: Reach along a way down", down.Reach(rise[n/2:n/2+1]), rise[:n/2+1])
	if !same(up.Back(), down) {
		t.Error("P11.5: Back of a way up is not the way down")
	}
	up.Edge(rise[n-1], rise[n/2])
	wantOrder(t, "a way into a ring", up, nil, false)
}

func TestWideGraphs(t *testing.T) {
	const n = 4096
	hub := lab("hub", "hub")
	in, out := graph.New(), graph.New()
	var rise []api.Label
	for i := range n {
		rise = append(rise, numbered(i))
	}
	for i := range n {
		in.Edge(rise[n-1-i], hub)
		out.Edge(hub, rise[n-1-i])
	}
	want(t, "P11.2: Out of a hub", out.Out(hub), rise)
	want(t, "P11.3: Reach of a hub", out.Reach([]api.Label{hub}), append([]api.Label{hub}, rise...))
	wantOrder(t, "a hub with edges in", in, append([]api.Label{hub}, rise...), true)
	wantOrder(t, "a hub with edges out", out, append(slices.Clone(rise), hub), true)
	if !same(in.Back(), out) || !same(out.Back(), in) {
		t.Error("P11.5: Back of a hub's edges in are not its edges out")
	}
}

func TestDenseGraph(t *testing.T) {
	const n = 150
	g := graph.New()
	var fall []api.Label
	for i := range n {
		fall = append(fall, numbered(n-1-i))
		for k := range i {
			g.Edge(numbered(k), numbered(i))
		}
	}
	wantOrder(t, "each to all behind it", g, fall, true)
	if l := g.Reach([]api.Label{numbered(30)}); len(l) != n-30 {
		t.Errorf("P11.3: Reach in a dense graph: %d", len(l))
	}
}

// P11.5

func TestBack(t *testing.T) {
	for _, c := range []struct{ text, want string }{
		{"", ""}, {"a", "a"}, {"c a b", "a b c"}, {"aa", "aa"}, {"ab", "ba"}, {"ab ba", "ab ba"}, {"ab bc ca", "ac cb ba"},
		{"ab ac bd cd e", "ba ca db dc e"}, {"aa ab ac", "aa ba ca"}, {"ad bd cd dd", "da db dc dd"},
	} {
		if b := drawn(c.text).Back(); !same(b, drawn(c.want)) {
			t.Errorf("P11.5: Back of %q has nodes %q and is not %q", c.text, b.Nodes(), c.want)
		}
		if b := drawn(c.text).Back().Back(); !same(b, drawn(c.text)) {
			t.Errorf("P11.6: Back of Back of %q is not that", c.text)
		}
	}
}

func TestBackStandsAlone(t *testing.T) {
	g := drawn(example)
	b, bb := g.Back(), g.Back().Back()
	g.Edge(one("d"), one("z"))
	g.Node(one("y"))
	g.Edge(one("a"), one("e"))
	g.Edge(one("b"), one("a"))
	if !same(b, drawn("ba ca db dc e")) || !same(bb, drawn(example)) {
		t.Error("P11.5: what was done to a graph is seen in its Back")
	}
	b.Edge(one("d"), one("x"))
	b.Edge(one("d"), one("a"))
	b.Node(one("w"))
	bb.Edge(one("a"), one("a"))
	bb.Edge(one("a"), one("bb"))
	if !same(g, drawn(example+" dz y ae ba")) {
		t.Error("P11.5: what was done to Back is seen in the graph")
	}
	if !same(b, drawn("ba ca db dc e dx da w")) || !same(bb, drawn(example+" aa abb")) {
		t.Error("P11.5: two graphs that Back gave are not apart")
	}
	if c := g.Back(); !same(c, drawn("ba ca db dc e zd y ea ab")) {
		t.Error("P11.5: a second Back does not turn about what was added")
	}
}

// Lists with spare room, from which a graph and its Back could both grow.
func TestBackStandsAloneAsListsGrow(t *testing.T) {
	g, p := graph.New(), bare()
	b, q := g.Back(), bare()
	for i := range 40 {
		from, to := numbered(i%3), numbered((i*17)%40)
		g.Edge(from, to)
		p.edge(from, to)
		b.Edge(from, numbered(39-i))
		q.edge(from, numbered(39-i))
		holds(t, "a graph that grows", g, p)
		holds(t, "another that grows", b, q)
		if i%5 == 0 {
			b, q = g.Back().Back(), p.back().back()
		}
	}
}

// Small worlds, each against the oracle.

func TestAllGraphsOfThree(t *testing.T) {
	l := []api.Label{lab("a", "b"), lab("", "c"), lab("a-b", "a")}
	for edges := range 1 << 9 {
		for nodes := range 1 << 3 {
			p := bare()
			for i, a := range l {
				if nodes>>i&1 == 1 {
					p.node(a)
				}
				for k, b := range l {
					if edges>>(3*i+k)&1 == 1 {
						p.edge(a, b)
					}
				}
			}
			g := p.made()
			what := fmt.Sprintf("%09b %03b", edges, nodes)
			holds(t, what, g, p)
			ways := p.ways()
			for some := range 1 << 3 {
				var from []api.Label
				for i, a := range l {
					if some>>i&1 == 1 {
						from = append(from, a)
					}
				}
				want(t, fmt.Sprintf("P11.3: Reach(%q) of %s", from, what), g.Reach(from), p.reach(ways, from))
			}
			if edges&7 == nodes {
				holds(t, what+" turned about", g.Back(), p.back())
			}
		}
	}
}

func TestAllGraphsOfFour(t *testing.T) {
	l := named("cadb")
	for edges := range 1 << 16 {
		p := bare()
		for i, a := range l {
			p.node(a)
			for k, b := range l {
				if edges>>(4*i+k)&1 == 1 {
					p.edge(a, b)
				}
			}
		}
		g := p.made()
		order, ok := p.order()
		wantOrder(t, fmt.Sprintf("%016b", edges), g, order, ok)
		if from := l[edges%4 : edges%4+1]; edges%8 < 4 {
			want(t, fmt.Sprintf("P11.3: Reach(%q) of %016b", from, edges), g.Reach(from), p.reach(p.ways(), from))
		}
	}
}

// anyGraph has up to so many nodes, with few edges or many, with circles or without.
func anyGraph(r *rand.Rand, most int) plain {
	all := near()
	r.Shuffle(len(all), func(i, k int) { all[i], all[k] = all[k], all[i] })
	l := all[:1+r.Intn(most)]
	p := bare()
	for range r.Intn(len(l) + 1) {
		p.node(l[r.Intn(len(l))])
	}
	circles := r.Intn(2) == 0
	for range r.Intn(2*len(l) + 1) {
		i, k := r.Intn(len(l)), r.Intn(len(l))
		if circles || i < k {
			p.edge(l[i], l[k])
		}
	}
	return p
}

// anyLabels are some labels, of which some may be nodes and some come twice.
func anyLabels(r *rand.Rand, nodes []api.Label) []api.Label {
	var l []api.Label
	for range r.Intn(8) {
		if len(nodes) > 0 && r.Intn(4) > 0 {
			l = append(l, nodes[r.Intn(len(nodes))])
		} else {
			l = append(l, lab("no", string(rune('a'+r.Intn(3)))))
		}
	}
	return l
}

func TestManyGraphs(t *testing.T) {
	r := rand.New(rand.NewSource(1102))
	for i := range 600 {
		p := anyGraph(r, 14)
		g := p.made()
		what := fmt.Sprintf("graph %d", i)
		holds(t, what, g, p)
		holds(t, what+" turned about", g.Back(), p.back())
		ways := p.ways()
		for range 10 {
			from := anyLabels(r, p.all())
			want(t, fmt.Sprintf("P11.3: Reach(%q) of %s", from, what), g.Reach(from), p.reach(ways, from))
		}
	}
}

// Long scripts: two graphs used in turn, asked at each step.
func TestTwoGraphsInTurn(t *testing.T) {
	r := rand.New(rand.NewSource(1103))
	labels := near()
	for range 40 {
		gs := []*graph.Graph{graph.New(), graph.New()}
		ps := []plain{bare(), bare()}
		r.Shuffle(len(labels), func(i, k int) { labels[i], labels[k] = labels[k], labels[i] })
		l := labels[:9]
		for step := range 40 {
			i := r.Intn(2)
			a, b := l[r.Intn(len(l))], l[r.Intn(len(l))]
			switch r.Intn(8) {
			case 0, 1:
				gs[i].Node(a)
				ps[i].node(a)
			case 2:
				gs[i], ps[i] = gs[i].Back(), ps[i].back()
			case 3:
				gs[1-i], ps[1-i] = gs[i].Back(), ps[i].back()
			default:
				gs[i].Edge(a, b)
				ps[i].edge(a, b)
			}
			holds(t, fmt.Sprintf("the first at step %d", step), gs[0], ps[0])
			holds(t, fmt.Sprintf("the second at step %d", step), gs[1], ps[1])
		}
	}
}

// P11.6

// circled: does a node reach itself by one edge or more?
func circled(g *graph.Graph) bool {
	return slices.ContainsFunc(g.Nodes(), func(a api.Label) bool {
		return slices.Contains(g.Reach(g.Out(a)), a)
	})
}

func TestWhatFollows(t *testing.T) {
	r := rand.New(rand.NewSource(1104))
	with, without := 0, 0
	for range 600 {
		g := anyGraph(r, 12).made()
		b := g.Back()
		l, ok := g.Order()
		if ok == circled(g) || ok && !risesBack(g, l) || !ok && len(l) != 0 {
			t.Fatalf("P11.6: Order: %q, %v, and circled is %v", l, ok, circled(g))
		}
		if ok {
			without++
		} else {
			with++
		}
		if !same(b.Back(), g) {
			t.Fatalf("P11.6: Back of Back of a graph of %q is not that", g.Nodes())
		}
		for _, x := range g.Nodes() {
			for _, y := range g.Nodes() {
				there := slices.Contains(g.Reach([]api.Label{x}), y)
				if there != slices.Contains(b.Reach([]api.Label{y}), x) {
					t.Fatalf("P11.6: %q reaches %q: %v, and not so in Back", x, y, there)
				}
			}
		}
		from := anyLabels(r, g.Nodes())
		reached := g.Reach(from)
		want(t, fmt.Sprintf("P11.6: Reach of Reach(%q)", from), g.Reach(reached), reached)
	}
	if with < 100 || without < 100 {
		t.Errorf("%d graphs with circles and %d without: too few to tell", with, without)
	}
}

// risesBack: has the list each node once, behind all that its edges lead to?
func risesBack(g *graph.Graph, l []api.Label) bool {
	at := map[api.Label]int{}
	for i, a := range l {
		at[a] = i
		for _, b := range g.Out(a) {
			if k, there := at[b]; !there || k >= i {
				return false
			}
		}
	}
	return len(at) == len(l) && len(l) == len(g.Nodes())
}

// P11.7

// withRoom gives a list in front of marks, and all of it.
func withRoom(items []api.Label, mark api.Label) (list, whole []api.Label) {
	whole = append(slices.Clone(items), mark, mark, mark, mark)
	return whole[:len(items)], whole
}

// fill writes over a list and its spare room; filled tells whether that is still there.
func fill(l []api.Label, mark api.Label) {
	for i := range l[:cap(l)] {
		l[:cap(l)][i] = mark
	}
}

func filled(l []api.Label, mark api.Label) bool {
	return !slices.ContainsFunc(l[:cap(l)], func(a api.Label) bool { return a != mark })
}

func TestWhatIsHandedInStays(t *testing.T) {
	r := rand.New(rand.NewSource(1105))
	for range 1000 {
		p := anyGraph(r, 10)
		g := p.made()
		ways, nodes := p.ways(), p.all()
		items := anyLabels(r, nodes)
		mark := one("mark")
		if len(nodes) > 0 {
			mark = nodes[0]
		}
		from, whole := withRoom(items, mark)
		was := slices.Clone(whole)
		got := g.Reach(from)
		want(t, fmt.Sprintf("P11.3: Reach(%q)", items), got, p.reach(ways, items))
		if !slices.Equal(whole, was) {
			t.Fatalf("P11.7: Reach(%q) changed what was handed in, or the room behind it", items)
		}
		fill(whole, one("other"))
		want(t, fmt.Sprintf("P11.7: Reach(%q), when its list was written over", items), got, p.reach(ways, items))
		want(t, "P11.7: Nodes, when a list was written over", g.Nodes(), nodes)
		want(t, fmt.Sprintf("P11.7: Reach(%q), when another list was written over", items), g.Reach(items), p.reach(ways, items))
	}
}

// answers are one of each list that a graph tells.
func answers(g *graph.Graph, from []api.Label) [][]api.Label {
	order, _ := g.Order()
	l := [][]api.Label{g.Nodes(), g.Reach(from), order, g.Back().Nodes()}
	for _, a := range g.Nodes() {
		l = append(l, g.Out(a), g.Back().Out(a), g.Reach([]api.Label{a}))
	}
	return l
}

func copies(l [][]api.Label) [][]api.Label {
	var c [][]api.Label
	for _, x := range l {
		c = append(c, slices.Clone(x))
	}
	return c
}

func checkApart(t *testing.T, p plain, items []api.Label) {
	t.Helper()
	g := p.made()
	from, whole := withRoom(items, one("room"))
	was := slices.Clone(whole)
	all := answers(g, from)
	all = append(all, answers(g, from)...)
	before := copies(all)
	for i, l := range all {
		fill(l, lab("mark", fmt.Sprint(i)))
		for k, rest := range all[i+1:] {
			if !slices.Equal(rest, before[i+1+k]) {
				t.Fatalf("P11.7: answers %d and %d share memory", i, i+1+k)
			}
		}
	}
	for i, l := range all {
		if !filled(l, lab("mark", fmt.Sprint(i))) {
			t.Fatalf("P11.7: the room behind answer %d is another's", i)
		}
	}
	if !slices.Equal(whole, was) {
		t.Fatalf("P11.7: an answer of Reach(%q) and its list share memory", items)
	}
	holds(t, "a graph whose answers were written over", g, p)
	holds(t, "its Back", g.Back(), p.back())
	for _, a := range p.all() {
		g.Edge(a, lab("new", "node"))
		g.Edge(a, a)
	}
	for i, l := range all {
		if !filled(l, lab("mark", fmt.Sprint(i))) {
			t.Fatalf("P11.7: answer %d was kept, and changed as the graph grew", i)
		}
	}
}

func TestAnswersAreNewMemory(t *testing.T) {
	r := rand.New(rand.NewSource(1106))
	rising := bare()
	for i := range 9 {
		rising.edge(numbered(0), numbered(i+1))
	}
	checkApart(t, rising, rising.all())
	checkApart(t, rising, nil)
	checkApart(t, bare(), named("abc"))
	for range 300 {
		p := anyGraph(r, 10)
		checkApart(t, p, anyLabels(r, p.all()))
	}
}

// What was told stays as it was told while the graph grows, in the middle of its lists too.
func TestAnswersStayAsTheGraphGrows(t *testing.T) {
	g := graph.New()
	hub := lab("hub", "hub")
	var told, before [][]api.Label
	for i := range 60 {
		g.Edge(hub, numbered((i*37)%60))
		g.Edge(numbered(i), lab("z", "z"))
		order, _ := g.Order()
		told = append(told, g.Out(hub), g.Nodes(), order, g.Reach([]api.Label{hub}))
		before = append(before, copies(told[len(told)-4:])...)
	}
	for i, l := range told {
		want(t, "P11.7: what was told early", l, before[i])
	}
}

// A map may be gone through in any order: nothing of that is to be seen.
func TestAnswersAreAlwaysTheSame(t *testing.T) {
	r := rand.New(rand.NewSource(1107))
	for range 20 {
		p := anyGraph(r, 30)
		from := anyLabels(r, p.all())
		g := p.made()
		first := answers(g, from)
		for range 20 {
			for i, l := range answers(p.made(), from) {
				want(t, "P11.7: an answer told again by a graph like it", l, first[i])
			}
			for i, l := range answers(g, from) {
				want(t, "P11.7: an answer told again", l, first[i])
			}
		}
	}
}
