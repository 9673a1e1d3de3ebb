package tongue

import (
	"slices"

	"lemmary/api"
	"lemmary/term"
)

// Carried carries a term of a to b.
func Carried(a, b api.Sign, d []api.Way, t api.Term) (api.Term, api.Errno) {
	if !Valid(a, b, d) || !term.Valid(a, t) {
		return nil, api.ErrInvalid
	}
	return carried(a, d, t), api.OK
}

// carried needs a way for each symbol of s that the term has.
func carried(s api.Sign, ways []api.Way, t api.Term) api.Term {
	at := 0
	var part func() api.Term
	part = func() api.Term {
		x := t[at]
		at++
		if x < 0 {
			return api.Term{x}
		}
		args := make([]api.Term, s[x].Arity)
		for k := range args {
			args[k] = part()
		}
		whole := api.Term{ways[x].To}
		for _, k := range ways[x].Args {
			whole = append(whole, args[k]...)
		}
		return whole
	}
	return part()
}

// Lacks reports whether a term of b has a symbol that no symbol of a becomes.
func Lacks(a, b api.Sign, d []api.Way, t api.Term) (bool, api.Errno) {
	if !Valid(a, b, d) || !term.Valid(b, t) {
		return false, api.ErrInvalid
	}
	return lacks(d, t), api.OK
}

func lacks(d []api.Way, t api.Term) bool {
	there := image(d)
	return slices.ContainsFunc(t, func(x int) bool { return x >= 0 && !slices.Contains(there, x) })
}

// Fetched returns the first term of a that is carried to a term of b. It has
// the first symbol that there is for each one, as all terms that are carried to
// one are equally long and the symbol stands before its arguments.
func Fetched(a, b api.Sign, d []api.Way, t api.Term) (api.Term, api.Errno) {
	if !Valid(a, b, d) || !term.Valid(b, t) {
		return nil, api.ErrInvalid
	}
	if lacks(d, t) {
		return nil, api.ErrNone
	}
	return carried(b, back(b, d), t), api.OK
}

// Symmetric reports whether a term is alike what d makes of it.
func Symmetric(s api.Sign, d []api.Way, t api.Term) (bool, api.Errno) {
	if !Valid(s, s, d) || !term.Valid(s, t) {
		return false, api.ErrInvalid
	}
	return term.Alike(s, t, carried(s, d, t)), api.OK
}
