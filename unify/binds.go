package unify

import (
	"iter"
	"slices"

	"lemmary/api"
)

// ValidBinds reports whether binds are valid for a sign.
func ValidBinds(s api.Sign, l []api.Bind) bool {
	before := -1
	for _, bind := range l {
		if bind.Var <= before || bind.Var >= api.MaxVars {
			return false
		}
		if !valid(s, bind.To) || slices.Equal(bind.To, variable(bind.Var)) {
			return false
		}
		before = bind.Var
	}
	return valid(s)
}

// Apply returns the term that binds make of a term.
func Apply(s api.Sign, l []api.Bind, t api.Term) (api.Term, api.Errno) {
	if !valid(s, t) || !ValidBinds(s, l) {
		return nil, api.ErrInvalid
	}
	u := applied(l, t)
	if len(u) > api.MaxSize {
		return nil, api.ErrLimit
	}
	return u, api.OK
}

// applied returns what valid binds make of a valid term, however long. It is
// never longer than MaxSize times MaxSize.
func applied(l []api.Bind, t api.Term) api.Term {
	var images [api.MaxVars]api.Term
	for v, image := range outcomes(l) {
		images[v] = image
	}
	u := api.Term{}
	for _, x := range t {
		if x < 0 {
			u = append(u, images[-x-1]...)
		} else {
			u = append(u, x)
		}
	}
	return u
}

// outcomes gives each variable, from 0 on, with what valid binds make of it.
func outcomes(l []api.Bind) iter.Seq2[int, api.Term] {
	return func(yield func(int, api.Term) bool) {
		next := 0
		for v := range api.MaxVars {
			image := variable(v)
			if next < len(l) && l[next].Var == v {
				image = l[next].To
				next++
			}
			if !yield(v, image) {
				return
			}
		}
	}
}

// Compose returns the binds that do what l does, and then m.
func Compose(s api.Sign, l, m []api.Bind) ([]api.Bind, api.Errno) {
	if !ValidBinds(s, l) || !ValidBinds(s, m) {
		return nil, api.ErrInvalid
	}
	both := []api.Bind{}
	for v, image := range outcomes(l) {
		to := applied(m, image)
		if len(to) > api.MaxSize {
			return nil, api.ErrLimit
		}
		both = bound(both, v, to)
	}
	return both, api.OK
}

// bound returns binds with one more, but none that leaves its variable as it
// is.
func bound(l []api.Bind, v int, to api.Term) []api.Bind {
	if slices.Equal(to, variable(v)) {
		return l
	}
	return append(l, api.Bind{Var: v, To: to})
}

// Solved reports whether no variable that binds bind comes in what they put in.
func Solved(s api.Sign, l []api.Bind) bool {
	if !ValidBinds(s, l) {
		return false
	}
	for _, bind := range l {
		for _, other := range l {
			if comes(bind.Var, other.To) {
				return false
			}
		}
	}
	return true
}

// Renaming reports whether binds make different variables of all variables.
func Renaming(s api.Sign, l []api.Bind) bool {
	if !ValidBinds(s, l) {
		return false
	}
	var met [api.MaxVars]bool
	for _, image := range outcomes(l) {
		if !isVariable(image) || met[-image[0]-1] {
			return false
		}
		met[-image[0]-1] = true
	}
	return true
}

// Occurs reports whether a variable comes in a term.
func Occurs(s api.Sign, v int, t api.Term) (bool, api.Errno) {
	if !valid(s, t) {
		return false, api.ErrInvalid
	}
	if v < 0 || v >= api.MaxVars {
		return false, api.ErrRange
	}
	return comes(v, t), api.OK
}

// comes reports whether a variable comes in a term.
func comes(v int, t api.Term) bool {
	return slices.Contains(t, -v-1)
}
