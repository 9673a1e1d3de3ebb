package kernel

import (
	"lemmary/api"
	"lemmary/term"
	"lemmary/unify"
)

// Detach returns the detachment of a major and a minor.
func Detach(s api.Sign, m, n api.Term) (api.Term, api.Errno) {
	if !term.Valid(s, m) || !term.Valid(s, n) {
		return nil, api.ErrInvalid
	}
	if !saysIf(m) {
		return nil, api.ErrState
	}
	if !Detaches(s, m, n) {
		return nil, api.ErrNone
	}
	f := fitted(s, m, n)
	return f.form(f.behind[premise])
}

// Detaches reports whether there is a detachment of a major and a minor: to
// meet is to unify with other variables.
func Detaches(s api.Sign, m, n api.Term) bool {
	a, e := term.At(s, m, []int{0})
	return e == api.OK && saysIf(m) && unify.Meets(s, a, n)
}

// saysIf reports whether a valid term has the first symbol at its top.
func saysIf(t api.Term) bool {
	return t[0] == 0
}
