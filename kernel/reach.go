package kernel

import (
	"slices"

	"lemmary/api"
	"lemmary/term"
)

// maxTimes is how many times Reachable detaches at most.
const maxTimes = 3

// Reachable returns the statements that givens say, and that detachments of two
// of them say, again and again so many times.
func Reachable(s api.Sign, g []api.Term, most int) ([]api.Term, api.Errno) {
	if !ValidGivens(s, g) {
		return nil, api.ErrInvalid
	}
	if most < 0 || most > maxTimes {
		return nil, api.ErrRange
	}
	l := make([]api.Term, len(g))
	for i, t := range g {
		l[i], _ = term.Canonical(s, t)
	}
	l = different(l)
	for range most {
		l = different(append(l, detachments(s, l)...))
		if len(l) > api.MaxList {
			return nil, api.ErrLimit
		}
	}
	return l, api.OK
}

// different sorts a list of terms and leaves each of them in it once.
func different(l []api.Term) []api.Term {
	slices.SortFunc(l, term.Compare)
	return slices.CompactFunc(l, slices.Equal)
}

// detachments returns all that two terms of a list, or one with itself, say.
func detachments(s api.Sign, l []api.Term) []api.Term {
	found := []api.Term{}
	for _, m := range l {
		for _, n := range l {
			t, e := Detach(s, m, n)
			if e == api.OK {
				found = append(found, t)
			}
		}
	}
	return found
}
