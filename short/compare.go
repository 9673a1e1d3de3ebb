package short

import (
	"slices"

	"lemmary/api"
	"lemmary/term"
	"lemmary/unify"
)

// Weight returns the sum of the sizes of what all steps of a proof say.
func Weight(s api.Sign, g []api.Term, p []api.Step) (int, api.Errno) {
	said, e := told(s, g, p)
	if e != api.OK {
		return 0, e
	}
	weight := 0
	for _, t := range said {
		weight += len(t)
	}
	return weight, api.OK
}

// Common returns the statements that steps of both proofs say, each once.
func Common(s api.Sign, g []api.Term, p, q []api.Step) ([]api.Term, api.Errno) {
	return compared(s, g, p, q, func(a, b []api.Term) []api.Term {
		other := func(t api.Term) bool {
			same := func(u api.Term) bool { return slices.Equal(t, u) }
			return !slices.ContainsFunc(b, same)
		}
		both := slices.DeleteFunc(a, other)
		slices.SortFunc(both, term.Compare)
		return slices.CompactFunc(both, slices.Equal)
	})
}

// Better reports whether the proof p says all that q says, or more, in at most
// as many steps.
func Better(s api.Sign, g []api.Term, p, q []api.Step) (bool, api.Errno) {
	return compared(s, g, p, q, func(a, b []api.Term) bool {
		return len(a) <= len(b) && unify.Instance(s, a[len(a)-1], b[len(b)-1])
	})
}

// compared returns what is made of what all steps of two proofs say. A proof
// that is not valid is so ahead of one that is not good.
func compared[R any](s api.Sign, g []api.Term, p, q []api.Step, compare func(a, b []api.Term) R) (R, api.Errno) {
	var none R
	a, e := told(s, g, p)
	b, f := told(s, g, q)
	if e == api.OK || f == api.ErrInvalid {
		e = f
	}
	if e != api.OK {
		return none, e
	}
	return compare(a, b), api.OK
}
