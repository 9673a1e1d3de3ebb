// Package term holds statements as terms, whatever their variables are called:
// layer 1 of lemmary, see doc/01-term.md.
package term

import (
	"cmp"
	"slices"

	"lemmary/api"
)

// Valid reports whether a sign is valid, and a term valid for it.
func Valid(s api.Sign, t api.Term) bool {
	return ValidSign(s) && validTerm(s, t)
}

// validTerm needs a valid sign. The numbers are checked before the end is
// looked for, because end looks up the arity of each symbol.
func validTerm(s api.Sign, t api.Term) bool {
	if len(t) < 1 || len(t) > api.MaxSize {
		return false
	}
	for _, x := range t {
		if x < -api.MaxVars || x >= len(s) {
			return false
		}
	}
	return end(s, t, 0) == len(t)
}

// end returns the index behind the part of t that begins at the index from, or
// -1 if t is over before the part is.
func end(s api.Sign, t api.Term, from int) int {
	var behind func(at int) int
	behind = func(at int) int {
		if at >= len(t) {
			return -1
		}
		next := at + 1
		if t[at] < 0 {
			return next
		}
		for range s[t[at]].Arity {
			next = behind(next)
			if next < 0 {
				return -1
			}
		}
		return next
	}
	return behind(from)
}

// Depth returns the depth of a term.
func Depth(s api.Sign, t api.Term) (int, api.Errno) {
	if !Valid(s, t) {
		return 0, api.ErrInvalid
	}
	depth := 0
	for path := range places(s, t) {
		depth = max(depth, len(path)+1)
	}
	return depth, api.OK
}

// Vars returns the variables of a term, in the order in which they come for
// the first time.
func Vars(s api.Sign, t api.Term) ([]int, api.Errno) {
	if !Valid(s, t) {
		return nil, api.ErrInvalid
	}
	vars := []int{}
	for _, x := range t {
		if x < 0 && !slices.Contains(vars, -x-1) {
			vars = append(vars, -x-1)
		}
	}
	return vars, api.OK
}

// Counts returns how often each symbol of the sign comes in a term.
func Counts(s api.Sign, t api.Term) ([]int, api.Errno) {
	if !Valid(s, t) {
		return nil, api.ErrInvalid
	}
	counts := make([]int, len(s))
	for _, x := range t {
		if x >= 0 {
			counts[x]++
		}
	}
	return counts, api.OK
}

// Compare orders lists of numbers, also such as are no terms: shorter ones come
// first.
func Compare(a, b api.Term) int {
	if len(a) != len(b) {
		return cmp.Compare(len(a), len(b))
	}
	return slices.Compare(a, b)
}
