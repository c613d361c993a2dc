package cache

import (
	"slices"

	"copse/api"
)

// key is by what an entry is found.
type key struct {
	path, text string
}

// entry is a key, and what its parse answered.
type entry struct {
	key
	targets []api.Target
	place   int
}

// ages keeps entries from the oldest to the youngest, none of them with the key
// of another. They are few, so that the order is the only thing kept: where one
// stands is looked for.
type ages struct {
	entries []entry
}

// Len tells how many are kept.
func (a *ages) Len() int {
	return len(a.entries)
}

// find tells where the entry of a key stands; -1, if there is none.
func (a *ages) find(k key) int {
	return slices.IndexFunc(a.entries, func(e entry) bool { return e.key == k })
}

// youngest gives the entry that was laid last; there must be one.
func (a *ages) youngest() entry {
	return a.entries[len(a.entries)-1]
}

// renew makes an entry the youngest.
func (a *ages) renew(at int) {
	e := a.entries[at]
	a.entries = append(slices.Delete(a.entries, at, at+1), e)
}

// add lays an entry whose key is new; the oldest gives way to it, if there is
// no more room.
func (a *ages) add(e entry) {
	if len(a.entries) == api.MaxFiles {
		a.entries = slices.Delete(a.entries, 0, 1)
	}
	a.entries = append(a.entries, e)
}
