package carry

import (
	"slices"

	"lemmary/api"
	"lemmary/term"
	"lemmary/unify"
)

// Chain returns an entry that says "if P then R", of what two others say: "if P
// then Q" and "if Q then R".
func Chain(s api.Sign, l []api.Entry, first, second, new, by string) (api.Entry, api.Errno) {
	said, e := starting(s, l, new, by, first, second)
	if e != api.OK {
		return api.Entry{}, e
	}
	if !saysIf(said[0]) || !saysIf(said[1]) {
		return api.Entry{}, api.ErrState
	}
	nameS, nameK := sayer(l, termS()), sayer(l, termK())
	if nameS == "" || nameK == "" || !linked(s, said[0], said[1]) {
		return api.Entry{}, api.ErrNone
	}
	uses := different(first, second, nameS, nameK)
	cite := func(name string) []api.Step { return citing(slices.Index(uses, name)) }
	// K lets the second one say "if anything, then if Q then R", and S makes of
	// it "if, if anything then Q, then if anything then R".
	widened := detaching(len(uses), cite(nameK), cite(second))
	proof := detaching(len(uses), cite(nameS), widened, cite(first))
	return proved(s, l, api.Entry{Name: new, By: by, Uses: uses, Proof: proof})
}

// linked reports whether what one statement leads to and what another one, with
// other variables, begins with unify, where both say "if".
func linked(s api.Sign, t, u api.Term) bool {
	end, _ := term.At(s, t, []int{1})
	beginning, _ := term.At(s, u, []int{0})
	return unify.Meets(s, end, beginning)
}

// sayer returns the name of the first entry that says a canonical term, or
// nothing.
func sayer(l []api.Entry, t api.Term) string {
	says := func(x api.Entry) bool { return slices.Equal(x.Says, t) }
	i := slices.IndexFunc(l, says)
	if i < 0 {
		return ""
	}
	return l[i].Name
}

// termS is "if, if x0 then if x1 then x2, then if, if x0 then x1, then if x0 then
// x2".
func termS() api.Term {
	return api.Term{0, 0, -1, 0, -2, -3, 0, 0, -1, -2, 0, -1, -3}
}

// termK is "if x0 then if x1 then x0".
func termK() api.Term {
	return api.Term{0, -1, 0, -2, -1}
}
