// Package unify makes terms alike by putting terms in place of variables:
// layer 2 of lemmary, see doc/02-unify.md.
package unify

import (
	"lemmary/api"
	"lemmary/term"
)

// logic is the sign in which terms are read.
type logic struct {
	sign api.Sign
}

// arity returns how many arguments follow a number of a valid term.
func (l logic) arity(x int) int {
	if x < 0 {
		return 0
	}
	return l.sign[x].Arity
}

// behind returns the index behind the part of a valid term that begins at the
// index from.
func (l logic) behind(t api.Term, from int) int {
	to := from
	for missing := 1; missing > 0; to++ {
		missing += l.arity(t[to]) - 1
	}
	return to
}

// valid reports whether a sign and all of some terms are valid.
func valid(s api.Sign, terms ...api.Term) bool {
	for _, t := range terms {
		if !term.Valid(s, t) {
			return false
		}
	}
	return term.ValidSign(s)
}

// isVariable reports whether a term is just a variable.
func isVariable(t api.Term) bool {
	return t[0] < 0
}

// variable returns the term that is just a variable.
func variable(v int) api.Term {
	return api.Term{-v - 1}
}
