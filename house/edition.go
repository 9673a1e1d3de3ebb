package house

import (
	"cmp"
	"slices"

	"lemmary/api"
	"lemmary/blame"
	"lemmary/deps"
)

// edition is the entries of a house, in ascending order of names, and all
// changes that made them.
type edition struct {
	sign    api.Sign
	entries []api.Entry
	changes []api.Change
}

// after returns the edition after a change.
func (l edition) after(c api.Change) edition {
	entries, e := blame.Made(l.sign, l.entries, c)
	done(e)
	return edition{sign: l.sign, entries: entries, changes: append(l.changes, c)}
}

// index returns the index of the entry with a name, or -1.
func (l edition) index(name string) int {
	return slices.IndexFunc(l.entries, func(x api.Entry) bool { return x.Name == name })
}

// entry returns the entry with a name.
func (l edition) entry(name string) api.Entry {
	i := l.index(name)
	need(i >= 0, api.ErrName)
	return l.entries[i]
}

// hold leaves a deed unless an entry and all that use it hold: what a change of
// the entry may break.
func (l edition) hold(name string) {
	for _, x := range l.entries {
		if x.Name == name || slices.Contains(x.Uses, name) {
			holds, _ := deps.Holds(l.sign, l.entries, x.Name)
			need(holds, api.ErrProof)
		}
	}
}

// mark tells who added an entry first, and who changed it last. Package blame
// tells the same, but not of more than MaxChanges changes.
func (l edition) mark(x api.Entry) api.Mark {
	mark := api.Mark{Name: x.Name}
	called := x.Name // after the change that is looked at
	for _, c := range slices.Backward(l.changes) {
		if c.New == called {
			called = c.Name
		}
		if c.Entry.Name != called {
			continue
		}
		mark.First, mark.Last = c.By, cmp.Or(mark.Last, c.By)
		if c.Kind == api.CAdd {
			break
		}
	}
	return mark
}
