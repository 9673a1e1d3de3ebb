package deps

import (
	"maps"
	"slices"

	"lemmary/api"
)

// Circle returns the least circle of a library.
func Circle(s api.Sign, l []api.Entry) ([]string, api.Errno) {
	known, e := opened(s, l)
	if e != api.OK {
		return nil, e
	}
	for _, first := range slices.Sorted(maps.Keys(known.index)) {
		if circle := known.circle(first); len(circle) > 0 {
			return circle, api.OK
		}
	}
	return nil, api.ErrNone
}

// circle returns the least circle that begins with a name, if there is one, and
// no lesser name is in any circle. A name from which the walk did not lead back
// is never tried again: it leads back only through names that are on the way to
// it, and no circle has a name twice.
func (l *library) circle(first string) []string {
	way := []string{}
	tried := map[string]bool{}
	var walk func(name string) bool
	walk = func(name string) bool {
		if tried[name] {
			return false
		}
		tried[name] = true
		way = append(way, name)
		if l.cites(name, first) {
			return true
		}
		x, _ := l.entry(name)
		if slices.ContainsFunc(slices.Sorted(slices.Values(x.Uses)), walk) {
			return true
		}
		way = way[:len(way)-1]
		return false
	}
	walk(first)
	return way
}

// cites reports whether an entry that is there cites a name.
func (l *library) cites(name, other string) bool {
	x, there := l.entry(name)
	return there && slices.Contains(x.Uses, other)
}

// IsCircle reports whether names are a circle of a library that begins with its
// least name.
func IsCircle(s api.Sign, l []api.Entry, names []string) bool {
	known, e := opened(s, l)
	if e != api.OK || len(names) == 0 {
		return false
	}
	met := map[string]bool{}
	for i, name := range names {
		next := names[(i+1)%len(names)]
		if met[name] || name < names[0] || !known.cites(name, next) {
			return false
		}
		met[name] = true
	}
	return true
}
