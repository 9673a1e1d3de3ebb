package carry

import (
	"cmp"
	"iter"
	"slices"

	"lemmary/api"
	"lemmary/deps"
	"lemmary/kernel"
	"lemmary/term"
)

// Converse returns "if Q then P" for a statement "if P then Q".
func Converse(s api.Sign, t api.Term) (api.Term, api.Errno) {
	args, e := term.Args(s, t)
	if e != api.OK {
		return nil, e
	}
	if !saysIf(t) {
		return nil, api.ErrState
	}
	turned, _ := term.Built(s, t[0], []api.Term{args[1], args[0]})
	return term.Canonical(s, turned)
}

// saysIf reports whether a valid term has the first symbol at its top.
func saysIf(t api.Term) bool {
	return t[0] == 0
}

// Equivalence reports whether two statements are an equivalence.
func Equivalence(s api.Sign, t, u api.Term) (bool, api.Errno) {
	if !term.Valid(s, t) || !term.Valid(s, u) {
		return false, api.ErrInvalid
	}
	converse, e := Converse(s, t)
	return e == api.OK && term.Alike(s, converse, u), api.OK
}

// Equivalences returns the pairs of names of entries whose statements are an
// equivalence, the lesser name first.
func Equivalences(s api.Sign, l []api.Entry) ([][2]string, api.Errno) {
	if !deps.Valid(s, l) {
		return nil, api.ErrInvalid
	}
	byName := func(x, y api.Entry) int { return cmp.Compare(x.Name, y.Name) }
	found := [][2]string{}
	for x, y := range pairs(slices.SortedFunc(slices.Values(l), byName)) {
		is, _ := Equivalence(s, x.Says, y.Says)
		if is && x.Name <= y.Name {
			found = append(found, [2]string{x.Name, y.Name})
		}
	}
	return found, api.OK
}

// pairs gives each entry with each one, also with itself.
func pairs(l []api.Entry) iter.Seq2[api.Entry, api.Entry] {
	return func(yield func(x, y api.Entry) bool) {
		for _, x := range l {
			for _, y := range l {
				if !yield(x, y) {
					return
				}
			}
		}
	}
}

// Derived returns the different statements that entries say, and that
// detachments of two of them say.
func Derived(s api.Sign, l []api.Entry) ([]api.Term, api.Errno) {
	if !deps.Valid(s, l) {
		return nil, api.ErrInvalid
	}
	said := []api.Term{}
	for _, x := range l {
		said = append(said, slices.Clone(x.Says))
	}
	for x, y := range pairs(l) {
		if t, e := kernel.Detach(s, x.Says, y.Says); e == api.OK {
			said = append(said, t)
		}
	}
	slices.SortFunc(said, term.Compare)
	return slices.CompactFunc(said, slices.Equal), api.OK
}
