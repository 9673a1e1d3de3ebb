package unify

import (
	"slices"

	"lemmary/api"
)

// Match returns the binds of variables of a that make a equal to b.
func Match(s api.Sign, a, b api.Term) ([]api.Bind, api.Errno) {
	if !valid(s, a, b) {
		return nil, api.ErrInvalid
	}
	l, found := logic{s}.match(a, b)
	if !found {
		return nil, api.ErrNone
	}
	return l, api.OK
}

// Instance reports whether b is an instance of a. What is alike b has an
// inverse renaming that leads to b itself, so that binds must be looked for
// that make a equal to b, and no others.
func Instance(s api.Sign, a, b api.Term) bool {
	if !valid(s, a, b) {
		return false
	}
	_, found := logic{s}.match(a, b)
	return found
}

// match returns the binds that make a valid term equal to another one. Both
// terms are read from left to right: as long as their symbols are the same,
// their parts stay side by side.
func (l logic) match(a, b api.Term) (binds []api.Bind, found bool) {
	var images [api.MaxVars]api.Term
	at := 0
	for _, x := range a {
		from := at
		at++
		if x < 0 {
			at = l.behind(b, from)
			if images[-x-1] == nil {
				images[-x-1] = slices.Clone(b[from:at])
			}
			if !slices.Equal(images[-x-1], b[from:at]) {
				return nil, false
			}
		} else if b[from] != x {
			return nil, false
		}
	}
	for v, image := range images {
		if image != nil {
			binds = bound(binds, v, image)
		}
	}
	return binds, true
}
