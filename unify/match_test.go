package unify_test

import (
	"slices"
	"testing"

	"lemmary/api"
	"lemmary/sample"
	"lemmary/term"
	"lemmary/unify"
)

// 2.2
func TestMatch(t *testing.T) {
	tests := []struct {
		a, b api.Term
		l    []api.Bind
		e    api.Errno
	}{
		{api.Term{-1}, api.Term{-1}, nil, api.OK}, {api.Term{-1}, api.Term{-12}, []api.Bind{{Var: 0, To: api.Term{-12}}}, api.OK},
		{api.Term{2}, api.Term{2}, nil, api.OK}, {api.Term{2}, api.Term{-1}, nil, api.ErrNone}, {api.Term{1, -1}, api.Term{0, -1, -1}, nil, api.ErrNone},
		{api.Term{-1}, api.Term{1, -1}, []api.Bind{{Var: 0, To: api.Term{1, -1}}}, api.OK}, {api.Term{1, -1}, api.Term{-1}, nil, api.ErrNone},
		{api.Term{0, -1, -2}, api.Term{0, -2, -1}, []api.Bind{{Var: 0, To: api.Term{-2}}, {Var: 1, To: api.Term{-1}}}, api.OK},
		{api.Term{0, -1, -2}, api.Term{0, -2, -2}, []api.Bind{{Var: 0, To: api.Term{-2}}}, api.OK}, {api.Term{0, -1, -1}, api.Term{0, -1, -2}, nil, api.ErrNone},
		{api.Term{0, -2, -1}, api.Term{0, 1, 2, 0, -2, 2}, []api.Bind{{Var: 0, To: api.Term{0, -2, 2}}, {Var: 1, To: api.Term{1, 2}}}, api.OK},
		{api.Term{3, -1, 2, 1, -1}, api.Term{3, 0, 2, -3, 2, 1, 0, 2, -3}, []api.Bind{{Var: 0, To: api.Term{0, 2, -3}}}, api.OK},
		{api.Term{3, -1, 2, 1, -1}, api.Term{3, 0, 2, -3, 2, 1, 0, 2, -4}, nil, api.ErrNone},
		{api.Term{3, -1, 2, 1, -1}, api.Term{3, 0, 2, -3, 2, -3}, nil, api.ErrNone},
		{api.Term{-12}, sample.Tower(60), []api.Bind{{Var: 11, To: sample.Tower(60)}}, api.OK}, {sample.Tower(60), sample.Tower(60), nil, api.OK}, {sample.Tower(60), sample.Tower(59), nil, api.ErrNone}, {sample.Tower(59), sample.Tower(60), nil, api.ErrNone},
	}
	for _, test := range tests {
		if l, e := unify.Match(sample.Sign(), test.a, test.b); e != test.e || !sameBinds(l, test.l) {
			t.Errorf("Match(%v, %v) = %v, %d", test.a, test.b, l, e)
		}
		if unify.Instance(sample.Sign(), test.a, test.b) != (test.e == api.OK) {
			t.Errorf("Instance(%v, %v)", test.a, test.b)
		}
	}
}

// 2.2, P2.3: Match finds the only binds that there are among all to parts of b.
func TestMatchOfSmallTerms(t *testing.T) {
	for _, a := range small(4) {
		for _, b := range small(5) {
			all := matches(short(), a, b)
			l, e := unify.Match(short(), a, b)
			if len(all) == 0 && (e != api.ErrNone || len(l) != 0) || len(all) > 0 && (e != api.OK || len(all) > 1 || !sameBinds(l, all[0])) {
				t.Errorf("Match(%v, %v) = %v, %d instead of %v", a, b, l, e, all)
			}
		}
	}
}

// 2.2: an instance is what some binds make of a term, up to the names of
// variables.
func TestInstance(t *testing.T) {
	for _, a := range small(4) {
		made := map[string]bool{}
		for _, l := range smallBinds(3) {
			form, _ := term.Canonical(short(), sample.Put(l, a))
			made[text(form)] = true
		}
		for _, b := range small(4) {
			form, _ := term.Canonical(short(), b)
			if unify.Instance(short(), a, b) && !made[text(form)] && len(a) == 4 || made[text(form)] && !unify.Instance(short(), a, b) {
				t.Errorf("Instance(%v, %v) = %v", a, b, unify.Instance(short(), a, b))
			}
		}
	}
}

// text is a key for a term.
func text(t api.Term) string {
	runes := []rune{}
	for _, x := range t {
		runes = append(runes, rune(x+'m'))
	}
	return string(runes)
}

// 2.2: binds make instances; so does a renaming.
func TestInstanceOfBinds(t *testing.T) {
	var d sample.Dice
	for range 3000 {
		a, l := d.Term(sample.Sign(), 10, api.MaxVars), binds(&d, 5)
		b := sample.Put(l, a)
		if got, e := unify.Match(sample.Sign(), a, b); e != api.OK || !slices.Equal(sample.Put(got, a), b) {
			t.Errorf("Match(%v, %v) = %v, %d", a, b, got, e)
		}
		c := sample.Put(cycle(1+d.Roll(12)), b)
		if !unify.Instance(sample.Sign(), a, c) || !unify.Instance(sample.Sign(), b, c) || !unify.Instance(sample.Sign(), c, b) {
			t.Errorf("Instance of %v: %v and %v", a, b, c)
		}
	}
}

// P2.3: an order up to the names of variables; a variable is above all.
func TestInstanceIsAnOrder(t *testing.T) {
	s := short()
	all := small(4)
	for _, a := range all {
		if !unify.Instance(s, a, a) || !unify.Instance(s, api.Term{-7}, a) {
			t.Errorf("%v is no instance of itself, or of a variable", a)
		}
		for _, b := range all {
			down, up := unify.Instance(s, a, b), unify.Instance(s, b, a)
			if down && up != term.Alike(s, a, b) {
				t.Errorf("%v and %v are instances of each other", a, b)
			}
			for _, c := range all {
				if down && unify.Instance(s, b, c) && !unify.Instance(s, a, c) {
					t.Fatalf("%v, %v and %v", a, b, c)
				}
			}
		}
	}
}
