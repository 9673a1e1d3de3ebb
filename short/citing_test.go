package short_test

import (
	"slices"
	"testing"

	"lemmary/api"
	"lemmary/kernel"
	"lemmary/sample"
	"lemmary/short"
)

// checkCiting tells what becomes of a proof in which givens are cited.
func checkCiting(t *testing.T, g []api.Term, p, want []api.Step, e api.Errno) {
	t.Helper()
	if q, f := short.Citing(sample.Sign(), g, p); f != e || !slices.Equal(q, want) {
		t.Errorf("Citing(%v, %v) = %v, %d, not %v, %d", g, p, q, f, want, e)
	}
}

// 7.1: which given is cited, with the givens K and S and further ones. S K says
// C C x0 x1 C x0 x0, of which a and b are more general, and neither of them of
// the other one.
func TestCitingWhich(t *testing.T) {
	said, a, b := api.Term{0, 0, -5, -2, 0, -5, -5}, api.Term{0, 0, -1, -2, -3}, api.Term{0, -12, 0, -1, -1}
	special, other, all := api.Term{0, 0, 1, -1, -2, 0, 1, -1, 1, -1}, api.Term{0, -1, -1}, api.Term{0, -1, -2}
	c, d := sample.Cite, sample.Detach
	tests := []struct {
		more []api.Term
		want api.Step
	}{
		{nil, d(0, 1)}, {[]api.Term{special, other}, d(0, 1)},
		{[]api.Term{said}, c(2)}, {[]api.Term{special, said, said}, c(3)}, {[]api.Term{said, special}, c(2)},
		{[]api.Term{a, b}, c(2)}, {[]api.Term{b, a}, c(2)}, {[]api.Term{a, said, b}, c(2)},
		{[]api.Term{said, a, b}, c(3)}, {[]api.Term{said, other, b, a, said}, c(4)},
		{[]api.Term{a, b, all}, c(4)}, {[]api.Term{a, all, b, {0, -9, -3}}, c(3)}, {[]api.Term{{0, -9, -3}, all}, c(2)},
		{[]api.Term{all, {-12}, a, {-1}}, c(3)},
	}
	for _, test := range tests {
		g := append(ks(), test.more...)
		checkCiting(t, g, []api.Step{c(1), c(0), d(0, 1)}, []api.Step{c(1), c(0), test.want}, api.OK)
	}
}

// 7.1: what later steps say is told anew. With C C x0 x1 C x2 x0 in place of what
// S K says the identity's last step says C x0 x1, and with C x0 x1 in its place
// x0: no given says as much.
func TestCitingAnew(t *testing.T) {
	c, d := sample.Cite, sample.Detach
	more, i, all := api.Term{0, 0, -1, -2, 0, -3, -1}, api.Term{0, -1, -1}, api.Term{0, -1, -2}
	p := sample.Identity()
	checkCiting(t, append(ks(), i), p, []api.Step{c(1), c(0), d(0, 1), c(2)}, api.OK)
	checkCiting(t, append(ks(), more, i), p, []api.Step{c(1), c(0), c(2), d(2, 1)}, api.OK)
	checkCiting(t, append(ks(), more, i, all), p, []api.Step{c(1), c(0), c(4), d(2, 1)}, api.OK)
	// Steps that cite stay where another given says more. Steps that are not
	// needed cite, too.
	checkCiting(t, append(ks(), all), []api.Step{c(1), c(0)}, []api.Step{c(1), c(0)}, api.OK)
	checkCiting(t, append(ks(), i, i), append(p, c(3)), []api.Step{c(1), c(0), d(0, 1), c(2), c(3)}, api.OK)
}

// 7.1: ErrProof where a later step, needed or not, says nothing then.
func TestCitingErrProof(t *testing.T) {
	c, d := sample.Cite, sample.Detach
	p := sample.Identity()
	g := append(ks(), api.Term{-4})
	checkCiting(t, g, p, nil, api.ErrProof)
	checkCiting(t, g, append(p, c(0)), nil, api.ErrProof)
	checkCiting(t, g, []api.Step{c(1), c(0), d(0, 1), d(1, 2)}, []api.Step{c(1), c(0), c(2), c(2)}, api.OK)
	// C x0 B has room for what C T T, but not always for what C x0 x1 brings.
	for most := 2; most <= api.MaxVars; most++ {
		g := []api.Term{{0, 2, 0, 2, 2}, {2}, {0, -1, -2}, append(api.Term{0, -1}, sample.Chain(sample.Vars(0, most-1)...)...)}
		p := []api.Step{c(0), c(1), d(0, 1), c(3), d(3, 2)}
		if most+1 <= api.MaxVars {
			checkCiting(t, g, p, []api.Step{c(0), c(1), c(2), c(3), c(2)}, api.OK)
		} else {
			checkCiting(t, g, p, nil, api.ErrProof)
		}
	}
}

// 7.1: all later steps are told anew each time. As soon as the step 2 cites
// f x0 x1 x2, the last step has 13 variables; it would have 11 of them again as
// soon as the step 4 cites C x0 x1.
func TestCitingEachTime(t *testing.T) {
	c, d := sample.Cite, sample.Detach
	last := slices.Concat(api.Term{0, 0, -1, -2}, sample.Chain(append(sample.Vars(0, 0), sample.Vars(2, 11)...)...))
	g := []api.Term{{0, 2, 3, -1, -1, -1}, {2}, {0, -1, 0, -1, -2}, last, {0, -1, -2}, {3, -1, -2, -3}}
	p := []api.Step{c(0), c(1), d(0, 1), c(2), d(3, 2), c(3), d(5, 4)}
	checkCiting(t, g[:4], p, p, api.OK)
	checkCiting(t, g[:5], p, []api.Step{c(0), c(1), d(0, 1), c(2), c(4), c(3), c(4)}, api.OK)
	checkCiting(t, g, p, nil, api.ErrProof)
}

// 7.1, P7.3: by random proofs, against the chapter's words.
func TestCitingSays(t *testing.T) {
	found := map[string]int{}
	proofs(3000, 12, func(s api.Sign, g []api.Term, p []api.Step) {
		want, e := citing(s, g, p)
		checkCiting(t, g, p, want, e)
		if e != api.OK {
			found["nothing"]++
			return
		}
		if slices.Equal(want, p) {
			return
		}
		found["cited"]++
		q, _ := short.Citing(s, g, p)
		u, _ := kernel.Says(s, g, p)
		v, e := kernel.Says(s, g, q)
		if e != api.OK || len(q) != len(p) || !sample.Instance(s, v, u) {
			t.Errorf("%v says %v, %v says %v, %d", p, u, q, v, e)
		}
		if !slices.Equal(u, v) {
			found["says more"]++
		}
	})
	if found["nothing"] < 100 || found["cited"] < 500 || found["says more"] < 100 {
		t.Errorf("%v", found)
	}
}
