package build

import (
	"slices"

	"copse/api"
	"copse/cycle"
	"copse/glob"
	"copse/graph"
	"copse/label"
	"copse/manifest"
	"copse/snap"
)

// reader answers what is asked of a label. It keeps the manifests that it has
// looked for, by their paths: each is parsed once, and one that no label has
// asked for is not among them, so it plays no part.
type reader struct {
	files  []api.File
	sheets map[string]sheet
}

// sheet is what a manifest says: its targets, or the place of its fault. Where
// there is no manifest it says nothing, and is at fault nowhere.
type sheet struct {
	targets []api.Target
	at      int
}

// fine is the place of a fault where there is none.
const fine = -1

// read parses a package's manifest.
func (r *reader) read(pkg string) sheet {
	p := below(pkg, api.Name)
	if known, met := r.sheets[p]; met {
		return known
	}
	says := sheet{at: fine}
	if f, there := snap.Find(r.files, p); there {
		says.targets, says.at = manifest.Parse(pkg, f.Text)
	}
	r.sheets[p] = says
	return says
}

// target is what the manifest says of a label.
func (r *reader) target(a api.Label) (api.Target, bool) {
	for _, t := range r.read(a.Pkg).targets {
		if t.Name == a.Name {
			return t, true
		}
	}
	return api.Target{}, false
}

// deps are the labels that it needs, as they are written.
func (r *reader) deps(a api.Label) []api.Label {
	t, _ := r.target(a)
	return t.Deps
}

// srcs are the files that its sources name.
func (r *reader) srcs(a api.Label) []api.File {
	t, _ := r.target(a)
	var ps []string
	for _, src := range t.Srcs {
		some, _ := glob.Expand(r.files, a.Pkg, src)
		for _, f := range some {
			ps = append(ps, f.Path)
		}
	}
	return snap.Keep(r.files, ps)
}

// fault is the first that the build has, in the document's order.
func (r *reader) fault(g *graph.Graph) (api.Fault, bool) {
	nodes := g.Nodes()
	if f, found := r.broken(); found {
		return f, true
	}
	if f, found := first(nodes, r.missing); found {
		return f, true
	}
	if l, found := cycle.First(g); found {
		return api.Fault{Code: api.ErrCycle, Circle: l}, true
	}
	return first(nodes, r.unseen)
}

// broken: is there a manifest, of those asked for, that does not parse? The
// files rise by path, as the manifests' packages need not.
func (r *reader) broken() (api.Fault, bool) {
	for _, f := range r.files {
		if says, met := r.sheets[f.Path]; met && says.at != fine {
			return api.Fault{Code: api.ErrParse, Path: f.Path, At: says.at}, true
		}
	}
	return api.Fault{}, false
}

// missing: is its target not there, or a literal of it?
func (r *reader) missing(a api.Label) (api.Fault, bool) {
	t, there := r.target(a)
	if !there {
		return api.Fault{Code: api.ErrMissing, Label: a}, true
	}
	var lost []string
	for _, src := range t.Srcs {
		if _, ok := glob.Expand(r.files, a.Pkg, src); !ok {
			lost = append(lost, below(a.Pkg, src))
		}
	}
	if len(lost) == 0 {
		return api.Fault{}, false
	}
	return api.Fault{Code: api.ErrMissing, Label: a, Path: slices.MinFunc(lost, byPath)}, true
}

// unseen: has it a dep that it may not see? The least is told, and the list is
// as the manifest writes it.
func (r *reader) unseen(a api.Label) (api.Fault, bool) {
	var hidden []api.Label
	for _, b := range r.deps(a) {
		if t, _ := r.target(b); !label.Sees(t.See, b.Pkg, a.Pkg) {
			hidden = append(hidden, b)
		}
	}
	if len(hidden) == 0 {
		return api.Fault{}, false
	}
	return api.Fault{Code: api.ErrSee, Label: a, Other: slices.MinFunc(hidden, label.Cmp)}, true
}
