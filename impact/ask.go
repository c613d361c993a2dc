package impact

import (
	"slices"
	"sync"

	"copse/api"
	"copse/closure"
)

// askers is how many goroutines ask side by side. It is not one for each label:
// there may be thousands, and each build takes room while it is made.
const askers = 8

// those are the labels of which it is so, rising. Goroutines ask, each of labels
// of its own; in which order their answers come is not to be seen, for they are
// sorted. The channel has room for all answers, so nobody waits for one to be
// taken, and all goroutines have ended ahead of the first.
func those(labels []api.Label, so func(api.Label) bool) []api.Label {
	answers := make(chan api.Label, len(labels))
	var asking sync.WaitGroup
	for first := range askers {
		asking.Go(func() {
			for i := first; i < len(labels); i += askers {
				if so(labels[i]) {
					answers <- labels[i]
				}
			}
		})
	}
	asking.Wait()
	close(answers)
	var l []api.Label
	for a := range answers {
		l = append(l, a)
	}
	slices.SortFunc(l, byLabel)
	return l
}

// change is what is asked about: the files, and the paths that may be other.
type change struct {
	files []api.File
	paths map[string]struct{}
}

// reaches: has the label a build, and its closure one of the paths?
func (c change) reaches(a api.Label) bool {
	ps, f := closure.Of(c.files, []api.Label{a})
	return f.Code == api.OK && slices.ContainsFunc(ps, c.has)
}

// touches: is the file at one of the paths?
func (c change) touches(f api.File) bool {
	return c.has(f.Path)
}

func (c change) has(p string) bool {
	_, is := c.paths[p]
	return is
}

func setOf(paths []string) map[string]struct{} {
	set := map[string]struct{}{}
	for _, p := range paths {
		set[p] = struct{}{}
	}
	return set
}
