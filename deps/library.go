package deps

import (
	"slices"

	"lemmary/api"
)

// library is what is known of a valid library.
type library struct {
	sign
	entries []api.Entry
	index   map[string]int // of the entries, by their names
}

// opened returns what is known of a library: ErrInvalid if it is not valid.
func opened(s api.Sign, l []api.Entry) (*library, api.Errno) {
	if !Valid(s, l) {
		return nil, api.ErrInvalid
	}
	known := &library{sign: sign(s), entries: l, index: map[string]int{}}
	for i, x := range l {
		known.index[x.Name] = i
	}
	return known, api.OK
}

// looked returns what is known of a library, and the entry with a name.
func looked(s api.Sign, l []api.Entry, name string) (*library, api.Entry, api.Errno) {
	known, e := opened(s, l)
	if e != api.OK {
		return nil, api.Entry{}, e
	}
	x, there := known.entry(name)
	if !there {
		return nil, api.Entry{}, api.ErrName
	}
	return known, x, api.OK
}

// entry returns the entry with a name, if there is one.
func (l *library) entry(name string) (x api.Entry, there bool) {
	i, there := l.index[name]
	if !there {
		return api.Entry{}, false
	}
	return l.entries[i], true
}

// names returns the names of the entries to which the answer is yes, ascending.
func (l *library) names(asked func(x api.Entry) bool) []string {
	names := []string{}
	for _, x := range l.entries {
		if asked(x) {
			names = append(names, x.Name)
		}
	}
	slices.Sort(names)
	return names
}

// cited returns all names that entries cite, ascending, each once.
func (l *library) cited() []string {
	names := []string{}
	for _, x := range l.entries {
		names = append(names, x.Uses...)
	}
	slices.Sort(names)
	return slices.Compact(names)
}

// missing returns the names that entries cite and that are not there.
func (l *library) missing() []string {
	return slices.DeleteFunc(l.cited(), func(name string) bool {
		_, there := l.index[name]
		return there
	})
}

// leans tells of each name whether an entry leans on it, there or missing.
func (l *library) leans(name string) map[string]bool {
	on := map[string]bool{}
	var walk func(name string)
	walk = func(name string) {
		x, _ := l.entry(name)
		for _, other := range x.Uses {
			if !on[other] {
				on[other] = true
				walk(other)
			}
		}
	}
	walk(name)
	return on
}
