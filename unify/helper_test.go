package unify_test

import (
	"slices"

	"lemmary/api"
	"lemmary/sample"
	"lemmary/term"
)

// short is the sign C/2 N/1 T/0, which has few small terms.
func short() api.Sign {
	return sample.Sign()[:3]
}

// small returns the terms of up to so many numbers with two variables.
func small(most int) []api.Term {
	return sample.SmallTerms(short(), most, 0, 1)
}

// pairs calls visit with pairs of terms: all of small ones, and random ones of
// which some are instances of each other.
func pairs(visit func(s api.Sign, a, b api.Term)) {
	all := small(4)
	for _, a := range all {
		for _, b := range all {
			visit(short(), a, b)
		}
	}
	var d sample.Dice
	for range 3000 {
		a := d.Term(sample.Sign(), 1+d.Roll(20), 1+d.Roll(api.MaxVars))
		b := d.Term(sample.Sign(), 1+d.Roll(20), 1+d.Roll(api.MaxVars))
		visit(sample.Sign(), a, b)
		visit(sample.Sign(), a, put(binds(&d, 4), a))
		visit(sample.Sign(), put(binds(&d, 3), a), put(binds(&d, 3), a))
		visit(sample.Sign(), row(&d), row(&d))
		a, b = ladder(&d)
		visit(sample.Sign(), a, b)
	}
}

// ladder is two terms of which the first one says that each variable is a term
// with lesser variables, so that they unify, and greater ones often become
// great.
func ladder(d *sample.Dice) (a, b api.Term) {
	l := []api.Term{}
	n := 1 + d.Roll(11)
	for v := range n {
		x := func() int { return -1 - v + d.Roll(1+v)*d.Roll(2) }
		l = append(l, []api.Term{{x()}, {0, x(), x()}, {3, x(), 2, x()}}[d.Roll(3)])
	}
	return chain(vars(1, n)...), chain(l...)
}

// row is a chain of variables and of terms with three variables: two of them
// often unify, and what they become is often great.
func row(d *sample.Dice) api.Term {
	l := []api.Term{}
	for range 4 + d.Roll(9) {
		x := func() int { return -1 - d.Roll(api.MaxVars) }
		if d.Roll(2) == 0 {
			l = append(l, api.Term{x()})
		} else {
			l = append(l, api.Term{3, x(), x(), x()})
		}
	}
	return chain(l...)
}

// binds returns random binds of terms of up to so many numbers.
func binds(d *sample.Dice, most int) []api.Bind {
	l := []api.Bind{}
	for v := range api.MaxVars {
		to := d.Term(sample.Sign(), 1+d.Roll(most), 1+d.Roll(api.MaxVars))
		if d.Roll(2) == 0 && to[0] != -v-1 {
			l = append(l, api.Bind{Var: v, To: to})
		}
	}
	return l
}

// smallBinds returns all binds of the variables 0 and 1 to terms of up to so
// many numbers.
func smallBinds(most int) [][]api.Bind {
	all := [][]api.Bind{}
	for _, x := range small(most) {
		for _, y := range small(most) {
			l := []api.Bind{}
			if x[0] != -1 {
				l = append(l, api.Bind{Var: 0, To: x})
			}
			if y[0] != -2 {
				l = append(l, api.Bind{Var: 1, To: y})
			}
			all = append(all, l)
		}
	}
	return all
}

// put returns what binds make of a term, told number by number.
func put(l []api.Bind, t api.Term) api.Term {
	u := api.Term{}
	for _, x := range t {
		i := slices.IndexFunc(l, func(bind api.Bind) bool { return -bind.Var-1 == x })
		if i < 0 {
			u = append(u, x)
		} else {
			u = append(u, l[i].To...)
		}
	}
	return u
}

// chain is C t C t ... of some terms: C of the first one and the chain of the
// others; the last one stands alone.
func chain(terms ...api.Term) api.Term {
	t := api.Term{}
	for _, next := range terms[:len(terms)-1] {
		t = append(append(t, 0), next...)
	}
	return append(t, terms[len(terms)-1]...)
}

// vars is the variables from one to another one.
func vars(from, to int) []api.Term {
	l := []api.Term{}
	for v := from; v <= to; v++ {
		l = append(l, api.Term{-v - 1})
	}
	return l
}

// doubled is two terms of which the first one says that the variables 1 to n
// are doubles of those before: they unify, but a variable becomes a term with
// 2^n places.
func doubled(n int) (a, b api.Term) {
	doubles := []api.Term{}
	for _, x := range vars(0, n-1) {
		doubles = append(doubles, slices.Concat(api.Term{0}, x, x))
	}
	return chain(vars(1, n)...), chain(doubles...)
}

// apart returns a term with each variable v called v + by.
func apart(t api.Term, by int) api.Term {
	u := slices.Clone(t)
	for i, x := range t {
		if x < 0 {
			u[i] = x - by
		}
	}
	return u
}

func sameBinds(l, m []api.Bind) bool {
	return slices.EqualFunc(l, m, func(x, y api.Bind) bool { return x.Var == y.Var && slices.Equal(x.To, y.To) })
}

// assigned calls visit with all binds of variables to terms of a choice.
func assigned(vars []int, choice []api.Term, visit func(l []api.Bind)) {
	vars = slices.Sorted(slices.Values(vars))
	var grow func(l []api.Bind, left []int)
	grow = func(l []api.Bind, left []int) {
		if len(left) == 0 {
			visit(slices.Clone(l))
			return
		}
		for _, to := range choice {
			if slices.Equal(to, api.Term{-left[0] - 1}) {
				grow(l, left[1:])
			} else {
				grow(append(l, api.Bind{Var: left[0], To: to}), left[1:])
			}
		}
	}
	grow(make([]api.Bind, 0, len(vars)), vars)
}

// matches returns all binds of variables of a to parts of b that make b of a.
func matches(s api.Sign, a, b api.Term) [][]api.Bind {
	all := [][]api.Bind{}
	free, _ := term.Vars(s, a)
	parts, _ := term.Parts(s, b)
	assigned(free, parts, func(l []api.Bind) {
		if slices.Equal(put(l, a), b) {
			all = append(all, l)
		}
	})
	return all
}
