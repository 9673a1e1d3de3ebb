package unify

import (
	"lemmary/api"
	"lemmary/term"
)

// MeetAll returns the meet of all terms of a list, from the first one on.
func MeetAll(s api.Sign, l []api.Term) (api.Term, api.Errno) {
	return folded(s, l, Meet)
}

// JoinAll returns the join of all terms of a list, from the first one on.
func JoinAll(s api.Sign, l []api.Term) (api.Term, api.Errno) {
	return folded(s, l, Join)
}

// folded returns what a function makes of the first two terms of a list, of
// that and the third one, and so on.
func folded(s api.Sign, l []api.Term, pair func(s api.Sign, a, b api.Term) (api.Term, api.Errno)) (api.Term, api.Errno) {
	if !valid(s, l...) {
		return nil, api.ErrInvalid
	}
	if len(l) < 1 || len(l) > api.MaxList {
		return nil, api.ErrRange
	}
	t, e := term.Canonical(s, l[0])
	for _, next := range l[1:] {
		if e != api.OK {
			return nil, e
		}
		t, e = pair(s, t, next)
	}
	return t, e
}
