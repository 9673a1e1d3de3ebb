package kernel_test

import (
	"slices"

	"lemmary/api"
	"lemmary/kernel"
	"lemmary/sample"
)

// short is the sign C/2 N/1 T/0, which has few small terms.
func short() api.Sign {
	return sample.Sign()[:3]
}

// ks returns the chapter's givens.
func ks() []api.Term {
	return []api.Term{sample.K(), sample.S()}
}

// split returns the terms A and B of a valid term "if A then B".
func split(s api.Sign, m api.Term) (a, b api.Term) {
	end := 2
	for !sample.IsTerm(s, m[1:end]) {
		end++
	}
	return m[1:end], m[end:]
}

// detached is another way to detach: by substitution, with the variables of the
// minor 20 higher.
func detached(s api.Sign, m, n api.Term) (api.Term, api.Errno) {
	if m[0] != 0 {
		return nil, api.ErrState
	}
	a, b := split(s, m)
	l, same := sample.Unifier(s, a, sample.Apart(n, 20))
	if !same {
		return nil, api.ErrNone
	}
	return form(sample.Put(l, b))
}

// form returns the canonical form of a term that may be too great for a term.
func form(t api.Term) (api.Term, api.Errno) {
	u := sample.Form(t)
	if len(u) > api.MaxSize || slices.Min(u) < -api.MaxVars {
		return nil, api.ErrLimit
	}
	return u, api.OK
}

// detachments calls visit with random majors and minors, of which many have a
// detachment, and some a great one.
func detachments(count int, visit func(s api.Sign, m, n api.Term)) {
	var d sample.Dice
	s := sample.Sign()
	for range count {
		a, b := d.Term(s, 1+d.Roll(20), 1+d.Roll(12)), d.Term(s, 1+d.Roll(20), 1+d.Roll(12))
		n := d.Term(s, 1+d.Roll(20), 1+d.Roll(12))
		switch d.Roll(5) {
		case 0:
			n = sample.Put(binds(&d, 1+d.Roll(6)), a)
		case 1:
			a, n = sample.Put(binds(&d, 1+d.Roll(4)), n), sample.Put(binds(&d, 1+d.Roll(4)), n)
		case 2:
			a = api.Term{-1 - d.Roll(12)}
		case 3:
			l := sample.Vars(0, d.Roll(5))
			a, b = sample.Chain(l...), d.Term(s, 1+d.Roll(50), len(l))
			for i := range l {
				l[i] = d.Term(s, 1+d.Roll(50/len(l)), 1+d.Roll(12))
			}
			n = sample.Chain(l...)
		}
		m := slices.Concat(api.Term{0}, a, b)
		if d.Roll(10) == 0 {
			m = a
		}
		if sample.IsTerm(s, m) && sample.IsTerm(s, n) {
			visit(s, m, n)
		}
	}
}

// binds returns random binds of terms of up to so many numbers.
func binds(d *sample.Dice, most int) []api.Bind {
	l := []api.Bind{}
	for v := range api.MaxVars {
		if d.Roll(2) == 0 {
			l = append(l, api.Bind{Var: v, To: d.Term(sample.Sign(), 1+d.Roll(most), 1+d.Roll(12))})
		}
	}
	return l
}

// doubled is a premise and a minor that unify, so that the variables 1 to n of
// the premise become terms with 3^(2k-1) places.
func doubled(n int) (a, minor api.Term) {
	left, right := []api.Term{}, []api.Term{}
	for v := range n {
		x, y, z := -v-2, -v-1, -v-2
		left = append(left, api.Term{x}, api.Term{3, x, x, x})
		right = append(right, api.Term{3, y, y, y}, api.Term{z})
	}
	return sample.Chain(left...), sample.Chain(right...)
}

// proofs calls visit with random proofs, all steps of which say something.
func proofs(count, most int, visit func(s api.Sign, g []api.Term, p []api.Step)) {
	var d sample.Dice
	s := sample.Sign()
	for range count {
		g := ks()
		for range d.Roll(4) {
			g = append(g, d.Term(s, 1+d.Roll(12), 4))
		}
		slices.Reverse(g)
		visit(s, g, d.Proof(len(g), most, func(p []api.Step) bool { return isGood(s, g, p) }))
	}
}

func isGood(s api.Sign, g []api.Term, p []api.Step) bool {
	_, _, e := kernel.Run(s, g, p)
	return e == api.OK
}

// shapes calls visit with random proofs for three givens, whatever they say.
func shapes(count, most int, visit func(p []api.Step)) {
	var d sample.Dice
	for range count {
		visit(d.Proof(3, 1+d.Roll(most), func(p []api.Step) bool { return true }))
	}
}
