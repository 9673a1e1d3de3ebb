package sample

import (
	"slices"

	"lemmary/api"
)

// Chain is C t C t ... of some terms: C of the first one and the chain of the
// others; the last one stands alone.
func Chain(terms ...api.Term) api.Term {
	t := api.Term{}
	for _, next := range terms[:len(terms)-1] {
		t = append(append(t, 0), next...)
	}
	return append(t, terms[len(terms)-1]...)
}

// Vars is the variables from one to another one.
func Vars(from, to int) []api.Term {
	l := []api.Term{}
	for v := from; v <= to; v++ {
		l = append(l, api.Term{-v - 1})
	}
	return l
}

// Apart returns a term with each variable v called v + by.
func Apart(t api.Term, by int) api.Term {
	u := slices.Clone(t)
	for i, x := range t {
		if x < 0 {
			u[i] = x - by
		}
	}
	return u
}

// Put returns what binds make of a term, told number by number.
func Put(l []api.Bind, t api.Term) api.Term {
	u := api.Term{}
	for _, x := range t {
		i := slices.IndexFunc(l, func(bind api.Bind) bool { return -bind.Var-1 == x })
		if i < 0 {
			u = append(u, x)
		} else {
			u = append(u, l[i].To...)
		}
	}
	return u
}

// Unifier finds by substitution, one variable after the other, what makes two
// terms the same: a way that shares nothing with those of the layers.
func Unifier(s api.Sign, t, u api.Term) ([]api.Bind, bool) {
	l := []api.Bind{}
	left := [][2]api.Term{{t, u}}
	for len(left) > 0 {
		a, b := left[0][0], left[0][1]
		left = left[1:]
		if b[0] < 0 {
			a, b = b, a
		}
		if slices.Equal(a, b) {
			continue
		}
		if a[0] >= 0 && a[0] != b[0] || a[0] < 0 && slices.Contains(b, a[0]) {
			return nil, false
		}
		if a[0] >= 0 {
			left = append(left, arguments(s, a, b)...)
			continue
		}
		one := []api.Bind{{Var: -a[0] - 1, To: b}}
		for i := range left {
			left[i] = [2]api.Term{Put(one, left[i][0]), Put(one, left[i][1])}
		}
		for i := range l {
			l[i].To = Put(one, l[i].To)
		}
		l = append(l, one...)
	}
	return l, true
}

// Instance tells in another way than those of the layers whether b is an instance
// of a: the variables of b are symbols of their own, so that nothing can be put
// in their places.
func Instance(s api.Sign, a, b api.Term) bool {
	frozen := slices.Clone(b)
	for i, x := range b {
		if x < 0 {
			frozen[i] = len(s) - x - 1
		}
	}
	_, same := Unifier(append(slices.Clone(s), make(api.Sign, api.MaxVars)...), a, frozen)
	return same
}

// arguments returns the pairs of arguments of terms with the same symbol.
func arguments(s api.Sign, a, b api.Term) [][2]api.Term {
	pairs := [][2]api.Term{}
	i, k := 1, 1
	for range s[a[0]].Arity {
		toI, toK := i+1, k+1
		for !isWhole(s, a[i:toI]) {
			toI++
		}
		for !isWhole(s, b[k:toK]) {
			toK++
		}
		pairs = append(pairs, [2]api.Term{a[i:toI], b[k:toK]})
		i, k = toI, toK
	}
	return pairs
}
