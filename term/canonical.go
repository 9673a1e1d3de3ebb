package term

import (
	"slices"

	"lemmary/api"
)

// Canonical returns the canonical form of a term.
func Canonical(s api.Sign, t api.Term) (api.Term, api.Errno) {
	if !Valid(s, t) {
		return nil, api.ErrInvalid
	}
	return renamed(t), api.OK
}

// IsCanonical reports whether a term is its own canonical form.
func IsCanonical(s api.Sign, t api.Term) bool {
	return Valid(s, t) && slices.Equal(t, renamed(t))
}

// Alike reports whether two terms have the same canonical form.
func Alike(s api.Sign, a, b api.Term) bool {
	return Valid(s, a) && validTerm(s, b) && slices.Equal(renamed(a), renamed(b))
}

// renamed returns the canonical form of a valid term.
func renamed(t api.Term) api.Term {
	form := make(api.Term, len(t))
	number := map[int]int{}
	for i, x := range t {
		if x >= 0 {
			form[i] = x
			continue
		}
		if _, met := number[x]; !met {
			number[x] = -len(number) - 1
		}
		form[i] = number[x]
	}
	return form
}

// Shape returns a term with the variable 0 in place of each variable.
func Shape(s api.Sign, t api.Term) (api.Term, api.Errno) {
	if !Valid(s, t) {
		return nil, api.ErrInvalid
	}
	shape := make(api.Term, len(t))
	for i, x := range t {
		shape[i] = max(x, -1)
	}
	return shape, api.OK
}
