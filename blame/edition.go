package blame

import (
	"maps"
	"slices"

	"lemmary/api"
)

// edition is the entries of an edition by their names. Their lists are those of
// an argument, so that they are never written to. For a name that is not there
// it gives the empty entry, which no valid entry is the same as.
type edition map[string]api.Entry

// opened returns the edition that the entries of a library are.
func opened(l []api.Entry) edition {
	entries := edition{}
	for _, x := range l {
		entries[x.Name] = x
	}
	return entries
}

// list returns the entries in ascending order of names, in new memory.
func (l edition) list() []api.Entry {
	list := []api.Entry{}
	for _, name := range slices.Sorted(maps.Keys(l)) {
		list = append(list, copied(l[name]))
	}
	return list
}

// has reports whether there is an entry with a name.
func (l edition) has(name string) bool {
	_, there := l[name]
	return there
}

// needs reports whether another entry than that with a name uses it.
func (l edition) needs(name string) bool {
	for other, x := range l {
		if other != name && slices.Contains(x.Uses, name) {
			return true
		}
	}
	return false
}

// change makes a valid change. One that can't be made changes nothing.
func (l edition) change(c api.Change) api.Errno {
	kinds := [...]func(l edition, c api.Change) api.Errno{api.CAdd: edition.add, api.CSet: edition.set, api.CName: edition.rename, api.CDrop: edition.drop}
	return kinds[c.Kind](l, c)
}

func (l edition) add(c api.Change) api.Errno {
	if l.has(c.Entry.Name) {
		return api.ErrDuplicate
	}
	if len(l) == api.MaxEntries {
		return api.ErrLimit
	}
	l[c.Entry.Name] = c.Entry
	return api.OK
}

func (l edition) set(c api.Change) api.Errno {
	if !l.has(c.Entry.Name) {
		return api.ErrName
	}
	if Same(l[c.Entry.Name], c.Entry) {
		return api.ErrNone
	}
	l[c.Entry.Name] = c.Entry
	return api.OK
}

func (l edition) rename(c api.Change) api.Errno {
	if !l.has(c.Name) {
		return api.ErrName
	}
	if l.has(c.New) || l.needs(c.New) {
		return api.ErrDuplicate
	}
	renamed := l[c.Name]
	renamed.Name = c.New
	delete(l, c.Name)
	l[c.New] = renamed
	for name, x := range l {
		if place := slices.Index(x.Uses, c.Name); place >= 0 {
			x.Uses = slices.Clone(x.Uses)
			x.Uses[place] = c.New
			l[name] = x
		}
	}
	return api.OK
}

func (l edition) drop(c api.Change) api.Errno {
	if !l.has(c.Name) {
		return api.ErrName
	}
	if l.needs(c.Name) {
		return api.ErrState
	}
	delete(l, c.Name)
	return api.OK
}
