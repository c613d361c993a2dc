package journal

import (
	"iter"

	"copse/api"
)

// slash parts the components of a path.
const slash = "/"

// thing is a file, or a directory with how much is below it: the zero thing is an
// empty directory.
type thing struct {
	file  bool
	below int
}

// things are what stands at paths. A tree tells that by whole lists alone, so it
// is asked once, and what its steps do is done here too.
type things map[string]thing

// standing are files and directories, and all directories above them.
func standing(files []api.File, dirs []string) things {
	there := things{}
	for _, d := range dirs {
		there.add(d, thing{})
	}
	for _, f := range files {
		there.add(f.Path, thing{file: true})
	}
	return there
}

// comesTo gives the tree's steps by which a step is carried out where these
// things stand, and leaves them as those do. Once the tree has refused one, they
// are not what stands in it any more, and are asked no more.
func (t things) comesTo(s api.Step) []api.Step {
	switch s.Kind {
	case api.Delete:
		if !t[s.Path].file {
			return nil
		}
		t.drop(s.Path)
	case api.Rmdir:
		if x, ok := t[s.Path]; !ok || x != (thing{}) {
			return nil
		}
		t.drop(s.Path)
	case api.Mkdir:
		return t.mkdirs(s.Path + slash)
	case api.Write:
		l := append(t.mkdirs(s.Path), s)
		if !t.has(s.Path) {
			t.add(s.Path, thing{file: true})
		}
		return l
	}
	return []api.Step{s}
}

// mkdirs makes the directories above a path at which nothing stands, and gives
// the steps for that.
func (t things) mkdirs(p string) []api.Step {
	var l []api.Step
	for d := range above(p) {
		if !t.has(d) {
			t.add(d, thing{})
			l = append(l, api.Step{Kind: api.Mkdir, Path: d})
		}
	}
	return l
}

func (t things) has(p string) bool {
	_, ok := t[p]
	return ok
}

// add lays a thing where none is.
func (t things) add(p string, x thing) {
	t[p] = x
	t.count(p, 1)
}

// drop takes a thing away that has nothing below it.
func (t things) drop(p string) {
	delete(t, p)
	t.count(p, -1)
}

// count tells the directories above a path how much more is below them.
func (t things) count(p string, more int) {
	for d := range above(p) {
		x := t[d]
		x.below += more
		t[d] = x
	}
}

// above gives the directories above a path but the root, rising. With a slash
// behind the path it is one of them itself.
func above(p string) iter.Seq[string] {
	return func(yield func(string) bool) {
		for i := range len(p) {
			if p[i] == slash[0] && !yield(p[:i]) {
				return
			}
		}
	}
}
