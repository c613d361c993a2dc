package incr

import (
	"slices"

	"copse/api"
	"copse/build"
	"copse/cache"
	"copse/delta"
	"copse/glob"
	"copse/path"
	"copse/snap"
)

// memory is what can be told without a build. All needs come from one build
// that had no fault, and nothing that they hang on has changed since: so where
// they lead from label to label without a gap, a build of these labels has no
// fault now.
type memory struct {
	cache  *cache.Cache            // what was parsed, by path and text
	parsed map[string][]api.Target // the same of manifests as they are now, by path; those of all needs are there
	needs  map[api.Label]need
}

// need is what a target needs: the paths of its manifest and its sources, and
// its deps.
type need struct {
	paths []string
	deps  []api.Label
}

// remembering is a memory of what was parsed, and of no need.
func remembering(c *cache.Cache) memory {
	return memory{c, map[string][]api.Target{}, map[api.Label]need{}}
}

// asked are the paths that labels ask for, with what they need; false, if one
// of these is not known, or there is no label. A path may come several times.
func (m *memory) asked(labels []api.Label) ([]string, bool) {
	var asked []string
	met := map[api.Label]struct{}{}
	todo := slices.Clone(labels)
	for i := 0; i < len(todo); i++ {
		a := todo[i]
		if _, twice := met[a]; twice {
			continue
		}
		met[a] = struct{}{}
		n, known := m.needs[a]
		if !known {
			return nil, false
		}
		asked = append(asked, n.paths...)
		todo = append(todo, n.deps...)
	}
	return asked, len(labels) > 0
}

// learn takes the needs from the build of labels, which must have no fault.
func (m *memory) learn(files []api.File, labels []api.Label) {
	clear(m.needs)
	nodes, _ := build.Of(files, labels)
	for _, n := range nodes {
		p := manifestOf(n.Label.Pkg)
		m.needs[n.Label] = needOf(p, n)
		if _, known := m.parsed[p]; !known {
			f, _ := snap.Find(files, p)
			m.parsed[p] = m.parse(f)
		}
	}
}

// parse tells what a manifest without a fault says. The cache is asked first:
// putting what it has already would change ages.
func (m *memory) parse(f api.File) []api.Target {
	targets, _, known := m.cache.Get(f.Path, f.Text)
	if !known {
		m.cache.Put(f.Path, f.Text)
		targets, _, _ = m.cache.Get(f.Path, f.Text)
	}
	return targets
}

// forget takes out what a delta has made old: what a manifest said that it
// changes, with the needs of all its targets; and the needs of those whose
// sources name a file that comes or goes. What a source holds plays no part.
func (m *memory) forget(d []api.Change) {
	changed, moved := delta.Paths(d), comeOrGone(d)
	for p, targets := range m.parsed {
		pkg := path.Dir(p)
		near := below(pkg, moved)
		all := slices.Contains(changed, p)
		for _, t := range targets {
			if all || nameOne(pkg, t.Srcs, near) {
				delete(m.needs, api.Label{Pkg: pkg, Name: t.Name})
			}
		}
	}
	for _, p := range changed {
		delete(m.parsed, p)
	}
}

// comeOrGone are files at the paths where a delta brings one or takes it away.
func comeOrGone(d []api.Change) []api.File {
	var moved []api.File
	for _, c := range d {
		if c.Had != c.Has {
			moved = append(moved, api.File{Path: c.Path})
		}
	}
	return moved
}

// below are the files below a package's directory: no other one can be a source
// of its targets.
func below(pkg string, l []api.File) []api.File {
	var near []api.File
	for _, f := range l {
		if path.Above(pkg, f.Path) {
			near = append(near, f)
		}
	}
	return near
}

// nameOne: do sources of a package name one of the files?
func nameOne(pkg string, srcs []string, l []api.File) bool {
	return slices.ContainsFunc(srcs, func(src string) bool {
		named, _ := glob.Expand(l, pkg, src)
		return len(named) > 0
	})
}

func needOf(manifest string, n api.Node) need {
	paths := []string{manifest}
	for _, f := range n.Srcs {
		paths = append(paths, f.Path)
	}
	return need{paths, n.Deps}
}

// manifestOf is the path of a package's manifest; what was built had one there,
// so it is a path.
func manifestOf(pkg string) string {
	p, _ := path.Join(pkg, api.Name)
	return p
}
