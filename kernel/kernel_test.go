package kernel_test

import (
	"slices"
	"testing"

	"lemmary/api"
	"lemmary/kernel"
	"lemmary/sample"
	"lemmary/term"
	"lemmary/unify"
)

func sameTerms(l, m []api.Term) bool {
	return slices.EqualFunc(l, m, slices.Equal)
}

// 4.2
func TestValidGivens(t *testing.T) {
	s := sample.Sign()
	for _, g := range [][]api.Term{nil, {}, {{-12}}, ks(), {{-3}, {-3}}, slices.Repeat([]api.Term{sample.Tower(60)}, 60)} {
		if !kernel.ValidGivens(s, g) {
			t.Errorf("%v are not valid", g)
		}
	}
	for _, g := range [][]api.Term{slices.Repeat([]api.Term{{-1}}, 61), make([]api.Term, 100000)} {
		if kernel.ValidGivens(s, g) {
			t.Errorf("%d givens are valid", len(g))
		}
	}
	for _, u := range sample.WrongTerms() {
		for _, g := range [][]api.Term{{u}, {{-1}, u}, {u, {-1}}, append(slices.Repeat([]api.Term{{2}}, 59), u)} {
			if kernel.ValidGivens(s, g) {
				t.Errorf("%v are valid", g)
			}
		}
	}
	for _, s := range sample.WrongSigns() {
		if kernel.ValidGivens(s, nil) || kernel.ValidGivens(s, []api.Term{{-1}}) {
			t.Errorf("givens are valid for %v", s)
		}
	}
}

// 4.2: a given that there is not, an index that is not earlier, a step of no
// kind, and the numbers of steps and of givens.
func TestValidProof(t *testing.T) {
	for _, p := range [][]api.Step{sample.Identity(), {sample.Cite(1)}, {sample.Cite(0), sample.Detach(0, 0)}, sample.Doubling(60), slices.Repeat([]api.Step{sample.Cite(1)}, 60)} {
		for givens := range 70 {
			if kernel.ValidProof(givens, p) != (givens <= 60 && (givens >= 2 || givens == 1 && p[0].A == 0)) {
				t.Errorf("ValidProof(%d, %v)", givens, p)
			}
		}
		if kernel.ValidProof(-1, p) {
			t.Errorf("ValidProof(-1, %v)", p)
		}
	}
	for _, p := range sample.WrongProofs() {
		if kernel.ValidProof(2, p) {
			t.Errorf("%v is valid", p)
		}
	}
	for a := range 70 {
		if kernel.ValidProof(60, []api.Step{sample.Cite(a)}) != (a < 60) {
			t.Errorf("a citation of %d", a)
		}
		p := append(sample.Doubling(59), sample.Detach(a, 58))
		q := append(sample.Doubling(59), sample.Detach(58, a))
		if kernel.ValidProof(1, p) != (a < 59) || kernel.ValidProof(1, q) != (a < 59) {
			t.Errorf("a detachment of %d", a)
		}
	}
}

// 4.2, the chapter's example.
func TestRun(t *testing.T) {
	s := short()
	sk := api.Term{0, 0, -1, -2, 0, -1, -1}
	want := []api.Term{sample.S(), sample.K(), sk, {0, -1, -1}}
	said, i, e := kernel.Run(s, ks(), sample.Identity())
	if !sameTerms(said, want) || i != -1 || e != api.OK {
		t.Errorf("Run = %v, %d, %d", said, i, e)
	}
	if u, e := kernel.Says(s, ks(), sample.Identity()); !slices.Equal(u, want[3]) || e != api.OK {
		t.Errorf("Says = %v, %d", u, e)
	}
	g := []api.Term{{0, -7, -5}, {-12}, {1, -3}}
	want = []api.Term{{1, -1}, {0, -1, -2}, {-1}, {-1}}
	said, i, e = kernel.Run(s, g, []api.Step{sample.Cite(2), sample.Cite(0), sample.Cite(1), sample.Detach(1, 0)})
	if !sameTerms(said, want) || i != -1 || e != api.OK {
		t.Errorf("Run = %v, %d, %d", said, i, e)
	}
}

// 4.2: each step says what the definition says, in random proofs.
func TestRunOfRandomProofs(t *testing.T) {
	detaching := 0
	proofs(1500, 12, func(s api.Sign, g []api.Term, p []api.Step) {
		said, i, e := kernel.Run(s, g, p)
		if len(said) != len(p) || i != -1 || e != api.OK {
			t.Fatalf("Run(%v, %v) = %v, %d, %d", g, p, said, i, e)
		}
		for i, step := range p {
			want, e := form(g[step.A*(2-step.Kind)])
			if step.Kind == api.SDetach {
				want, e = detached(s, said[step.A], said[step.B])
				detaching++
			}
			if e != api.OK || !slices.Equal(said[i], want) {
				t.Errorf("Run(%v, %v): the step %d says %v", g, p, i, said[i])
			}
		}
		last, e := kernel.Says(s, g, p)
		if !slices.Equal(last, said[len(p)-1]) || e != api.OK {
			t.Errorf("Says(%v, %v) = %v, %d", g, p, last, e)
		}
	})
	if detaching < 1000 {
		t.Errorf("only %d detachments", detaching)
	}
}

// failure is a proof whose step with the index 2 says nothing.
type failure struct {
	g []api.Term
	p []api.Step
	e api.Errno
}

// failing holds proofs for each error of Detach; most do not need that step.
func failing() []failure {
	c, d := sample.Cite, sample.Detach
	return []failure{
		{[]api.Term{{-3}, {2}}, []api.Step{c(0), c(1), d(0, 1), c(0)}, api.ErrState},
		{[]api.Term{{1, -3}, {2}}, []api.Step{c(0), c(1), d(0, 1), d(0, 1), d(2, 2), c(0)}, api.ErrState},
		{[]api.Term{{0, 1, -1, 2}, {2}}, []api.Step{c(0), c(1), d(0, 1), d(0, 0), c(1)}, api.ErrNone},
		{[]api.Term{{0, -1, 0, -1, -1}, sample.Tower(30)}, []api.Step{c(0), c(1), d(0, 1), d(1, 0), c(1)}, api.ErrLimit},
		{[]api.Term{{0, -1, 0, -1, -2}, sample.Chain(sample.Vars(0, 11)...)}, []api.Step{c(0), c(1), d(0, 1)}, api.ErrLimit},
	}
}

// 4.2, Details: at the first step that says nothing Run stops, needed or not;
// what the steps before say is there.
func TestFailingSteps(t *testing.T) {
	s := short()
	for _, x := range failing() {
		said, i, e := kernel.Run(s, x.g, x.p)
		before, _, _ := kernel.Run(s, x.g, x.p[:2])
		if e != x.e || i != 2 || len(before) != 2 || !sameTerms(said, before) {
			t.Errorf("Run(%v, %v) = %v, %d, %d", x.g, x.p, said, i, e)
		}
		if u, e := kernel.Says(s, x.g, x.p); len(u) != 0 || e != x.e {
			t.Errorf("Says(%v, %v) = %v, %d", x.g, x.p, u, e)
		}
		for _, u := range append(slices.Clone(x.g), api.Term{-1}, api.Term{2}) {
			if i, e := kernel.Check(s, x.g, x.p, u); i != 2 || e != x.e || kernel.Proves(s, x.g, x.p, u) {
				t.Errorf("Check(%v, %v, %v) = %d, %d", x.g, x.p, u, i, e)
			}
		}
		if i, e := kernel.Check(s, x.g, x.p, nil); i != 0 || e != api.ErrInvalid {
			t.Errorf("Check(%v, %v, nil) = %d, %d", x.g, x.p, i, e)
		}
	}
}

// 4.2: a proof proves all instances of what its last step says, and nothing else.
func TestProves(t *testing.T) {
	s := short()
	tests := []struct {
		t     api.Term
		proof bool
	}{
		{api.Term{0, -1, -1}, true}, {api.Term{0, -5, -5}, true}, {api.Term{0, 2, 2}, true}, {api.Term{0, 0, -2, -1, 0, -2, -1}, true}, {slices.Concat(api.Term{0}, sample.Tower(29), sample.Tower(29)), true},
		{api.Term{-1}, false}, {api.Term{0, -1, -2}, false}, {api.Term{0, 2, -1}, false}, {api.Term{1, -1}, false}, {sample.K(), false}, {sample.S(), false}, {api.Term{0, 0, -1, -2, 0, -1, -1}, false},
	}
	for _, test := range tests {
		want, e := -1, api.Errno(api.OK)
		if !test.proof {
			want, e = 3, api.ErrProof
		}
		if i, f := kernel.Check(s, ks(), sample.Identity(), test.t); i != want || f != e {
			t.Errorf("Check(%v) = %d, %d", test.t, i, f)
		}
		if kernel.Proves(s, ks(), sample.Identity(), test.t) != test.proof {
			t.Errorf("Proves(%v) is not %v", test.t, test.proof)
		}
	}
	if i, e := kernel.Check(s, ks(), []api.Step{sample.Cite(1)}, sample.K()); i != 0 || e != api.ErrProof {
		t.Errorf("Check = %d, %d", i, e)
	}
}

// 4.2: with random proofs and terms, of which many are instances.
func TestChecked(t *testing.T) {
	var d sample.Dice
	done := map[api.Errno]int{}
	proofs(1000, 8, func(s api.Sign, g []api.Term, p []api.Step) {
		last, _ := kernel.Says(s, g, p)
		for _, u := range []api.Term{sample.Put(binds(&d, 3), last), d.Term(s, 12, 3), renamed(&d, last), g[0]} {
			if len(u) > api.MaxSize {
				continue
			}
			i, e := kernel.Check(s, g, p, u)
			done[e]++
			proof := unify.Instance(s, last, u)
			if proof && (i != -1 || e != api.OK) || !proof && (i != len(p)-1 || e != api.ErrProof) || kernel.Proves(s, g, p, u) != proof {
				t.Errorf("Check(%v, %v, %v) = %d, %d", g, p, u, i, e)
			}
		}
	})
	if done[api.OK] < 500 || done[api.ErrProof] < 500 {
		t.Errorf("%v", done)
	}
}

// P4.3: with more general givens no step says less.
func TestMoreGeneralGivens(t *testing.T) {
	var d sample.Dice
	more := 0
	proofs(1500, 10, func(s api.Sign, g []api.Term, p []api.Step) {
		general := slices.Clone(g)
		for i, u := range g {
			general[i] = generalized(&d, s, u)
			if !unify.Instance(s, general[i], u) {
				t.Fatalf("%v is no instance of %v", u, general[i])
			}
		}
		before, _, _ := kernel.Run(s, g, p)
		after, i, e := kernel.Run(s, general, p)
		if e == api.ErrNone || e != api.OK && len(after) != i {
			t.Errorf("Run(%v, %v) = %v, %d, %d", general, p, after, i, e)
		}
		for i, u := range after {
			if !unify.Instance(s, u, before[i]) {
				t.Errorf("the step %d of %v says %v of %v, and %v of %v", i, p, before[i], g, u, general)
			}
			if p[i].Kind == api.SDetach && !term.Alike(s, u, before[i]) {
				more++
			}
		}
	})
	if more < 100 {
		t.Errorf("only %d steps say more", more)
	}
}

// generalized returns a term, which has no variable above 4, with others in place
// of some of its parts.
func generalized(d *sample.Dice, s api.Sign, t api.Term) api.Term {
	parts, _ := term.Parts(s, t)
	for v := range d.Roll(3) {
		u := parts[d.Roll(len(parts))]
		paths, _ := term.Paths(s, t, u)
		for _, path := range paths {
			t, _ = term.Put(s, t, path, api.Term{-6 - v})
		}
	}
	return t
}
