package unify_test

import (
	"slices"

	"lemmary/api"
	"lemmary/sample"
	"lemmary/term"
)

// short is the sign C/2 N/1 T/0, which has few small terms.
func short() api.Sign {
	return sample.Sign()[:3]
}

// small returns the terms of up to so many numbers with two variables.
func small(most int) []api.Term {
	return sample.SmallTerms(short(), most, 0, 1)
}

// pairs calls visit with pairs of terms: all of small ones, and random ones of
// which some are instances of each other.
func pairs(visit func(s api.Sign, a, b api.Term)) {
	all := small(4)
	for _, a := range all {
		for _, b := range all {
			visit(short(), a, b)
		}
	}
	var d sample.Dice
	for range 3000 {
		a := d.Term(sample.Sign(), 1+d.Roll(20), 1+d.Roll(api.MaxVars))
		b := d.Term(sample.Sign(), 1+d.Roll(20), 1+d.Roll(api.MaxVars))
		visit(sample.Sign(), a, b)
		visit(sample.Sign(), a, sample.Put(binds(&d, 4), a))
		visit(sample.Sign(), sample.Put(binds(&d, 3), a), sample.Put(binds(&d, 3), a))
		visit(sample.Sign(), row(&d), row(&d))
		a, b = ladder(&d)
		visit(sample.Sign(), a, b)
	}
}

// ladder is two terms of which the first one says that each variable is a term
// with lesser variables, so that they unify, and greater ones often become
// great.
func ladder(d *sample.Dice) (a, b api.Term) {
	l := []api.Term{}
	n := 1 + d.Roll(11)
	for v := range n {
		x := func() int { return -1 - v + d.Roll(1+v)*d.Roll(2) }
		l = append(l, []api.Term{{x()}, {0, x(), x()}, {3, x(), 2, x()}}[d.Roll(3)])
	}
	return sample.Chain(sample.Vars(1, n)...), sample.Chain(l...)
}

// row is a chain of variables and of terms with three variables: two of them
// often unify, and what they become is often great.
func row(d *sample.Dice) api.Term {
	l := []api.Term{}
	for range 4 + d.Roll(9) {
		x := func() int { return -1 - d.Roll(api.MaxVars) }
		if d.Roll(2) == 0 {
			l = append(l, api.Term{x()})
		} else {
			l = append(l, api.Term{3, x(), x(), x()})
		}
	}
	return sample.Chain(l...)
}

// binds returns random binds of terms of up to so many numbers.
func binds(d *sample.Dice, most int) []api.Bind {
	l := []api.Bind{}
	for v := range api.MaxVars {
		to := d.Term(sample.Sign(), 1+d.Roll(most), 1+d.Roll(api.MaxVars))
		if d.Roll(2) == 0 && to[0] != -v-1 {
			l = append(l, api.Bind{Var: v, To: to})
		}
	}
	return l
}

// smallBinds returns all binds of the variables 0 and 1 to terms of up to so
// many numbers.
func smallBinds(most int) [][]api.Bind {
	all := [][]api.Bind{}
	for _, x := range small(most) {
		for _, y := range small(most) {
			l := []api.Bind{}
			if x[0] != -1 {
				l = append(l, api.Bind{Var: 0, To: x})
			}
			if y[0] != -2 {
				l = append(l, api.Bind{Var: 1, To: y})
			}
			all = append(all, l)
		}
	}
	return all
}

// doubled is two terms of which the first one says that the variables 1 to n
// are doubles of those before: they unify, but a variable becomes a term with
// 2^n places.
func doubled(n int) (a, b api.Term) {
	doubles := []api.Term{}
	for _, x := range sample.Vars(0, n-1) {
		doubles = append(doubles, slices.Concat(api.Term{0}, x, x))
	}
	return sample.Chain(sample.Vars(1, n)...), sample.Chain(doubles...)
}

func sameBinds(l, m []api.Bind) bool {
	return slices.EqualFunc(l, m, func(x, y api.Bind) bool { return x.Var == y.Var && slices.Equal(x.To, y.To) })
}

// assigned calls visit with all binds of variables to terms of a choice.
func assigned(vars []int, choice []api.Term, visit func(l []api.Bind)) {
	vars = slices.Sorted(slices.Values(vars))
	var grow func(l []api.Bind, left []int)
	grow = func(l []api.Bind, left []int) {
		if len(left) == 0 {
			visit(slices.Clone(l))
			return
		}
		for _, to := range choice {
			if slices.Equal(to, api.Term{-left[0] - 1}) {
				grow(l, left[1:])
			} else {
				grow(append(l, api.Bind{Var: left[0], To: to}), left[1:])
			}
		}
	}
	grow(make([]api.Bind, 0, len(vars)), vars)
}

// matches returns all binds of variables of a to parts of b that make b of a.
func matches(s api.Sign, a, b api.Term) [][]api.Bind {
	all := [][]api.Bind{}
	free, _ := term.Vars(s, a)
	parts, _ := term.Parts(s, b)
	assigned(free, parts, func(l []api.Bind) {
		if slices.Equal(sample.Put(l, a), b) {
			all = append(all, l)
		}
	})
	return all
}
