package unify_test

import (
	"slices"
	"testing"

	"lemmary/api"
	"lemmary/sample"
	"lemmary/term"
	"lemmary/unify"
)

// checkUnified fails unless binds are a unifier as 2.3 says, and Unified and
// Unifiable fit.
func checkUnified(t *testing.T, s api.Sign, a, b api.Term, l []api.Bind) {
	t.Helper()
	if !unify.ValidBinds(s, l) || !unify.Solved(s, l) || !unify.Unifies(s, l, a, b) || !slices.Equal(sample.Put(l, a), sample.Put(l, b)) || !unify.Unifiable(s, a, b) {
		t.Errorf("Unify(%v, %v) = %v", a, b, l)
	}
	free := append(slices.Clone(a), b...)
	for _, bind := range l {
		for _, x := range append(slices.Clone(bind.To), -bind.Var-1) {
			if x < 0 && !slices.Contains(free, x) {
				t.Errorf("Unify(%v, %v) = %v has the variable %d", a, b, l, -x-1)
			}
		}
	}
	made := sample.Put(l, a)
	u, e := unify.Unified(s, a, b)
	if len(made) > api.MaxSize {
		if e != api.ErrLimit || len(u) != 0 {
			t.Errorf("Unified(%v, %v) = %v, %d", a, b, u, e)
		}
		return
	}
	form, _ := term.Canonical(s, made)
	if e != api.OK || !slices.Equal(u, form) {
		t.Errorf("Unified(%v, %v) = %v, %d", a, b, u, e)
	}
}

// checkApart fails unless there is no unifier.
func checkApart(t *testing.T, s api.Sign, a, b api.Term) {
	t.Helper()
	l, e := unify.Unify(s, a, b)
	u, f := unify.Unified(s, a, b)
	if e != api.ErrNone || f != api.ErrNone || len(l) != 0 || len(u) != 0 || unify.Unifiable(s, a, b) {
		t.Errorf("%v and %v: %v, %d; %v, %d", a, b, l, e, u, f)
	}
}

// 2.3
func TestUnify(t *testing.T) {
	s := sample.Sign()
	tests := []struct{ a, b, want api.Term }{
		{api.Term{-5}, api.Term{-5}, api.Term{-1}}, {api.Term{-5}, api.Term{-2}, api.Term{-1}}, {api.Term{-5}, api.Term{2}, api.Term{2}},
		{api.Term{2}, api.Term{1, 2}, nil}, {api.Term{-1}, api.Term{1, -1}, nil}, {api.Term{-1}, api.Term{1, -2}, api.Term{1, -1}},
		{api.Term{0, -1, 1, -1}, api.Term{0, 1, -2, -3}, api.Term{0, 1, -1, 1, 1, -1}}, {api.Term{0, -1, -1}, api.Term{0, -2, -3}, api.Term{0, -1, -1}},
		{api.Term{0, -1, -1}, api.Term{0, 1, -2, -2}, nil}, {api.Term{0, -1, -2}, api.Term{0, -2, 1, -1}, nil}, {api.Term{0, -1, -2}, api.Term{0, -2, -1}, api.Term{0, -1, -1}},
		{api.Term{3, -1, -2, -3}, api.Term{3, -2, -3, 2}, api.Term{3, 2, 2, 2}}, {api.Term{3, -1, -2, -3}, api.Term{3, 1, -2, 1, -3, 1, -1}, nil},
		{api.Term{3, -1, -2, 2}, api.Term{3, -2, 2, -1}, api.Term{3, 2, 2, 2}}, {api.Term{3, -1, -2, 2}, api.Term{3, -2, 1, 2, -1}, nil},
		{sample.Tower(60), sample.Tower(60), sample.Tower(60)}, {sample.Tower(60), sample.Tower(59), nil}, {api.Term{-12}, sample.Tower(60), sample.Tower(60)},
	}
	for _, test := range tests {
		for _, pair := range [][2]api.Term{{test.a, test.b}, {test.b, test.a}} {
			if test.want == nil {
				checkApart(t, s, pair[0], pair[1])
				continue
			}
			l, e := unify.Unify(s, pair[0], pair[1])
			u, f := unify.Unified(s, pair[0], pair[1])
			if e != api.OK || f != api.OK || !slices.Equal(u, test.want) {
				t.Errorf("Unified(%v, %v) = %v, %d, %d", pair[0], pair[1], u, e, f)
			}
			checkUnified(t, s, pair[0], pair[1], l)
		}
	}
}

// 2.3, Details: equal terms need no binds.
func TestUnifyOfEqualTerms(t *testing.T) {
	for _, u := range append(small(5), sample.RandomTerms(sample.Sign(), 200)...) {
		if l, e := unify.Unify(sample.Sign(), u, u); e != api.OK || len(l) != 0 {
			t.Errorf("Unify(%v, the same) = %v, %d", u, l, e)
		}
	}
}

// 2.3, the chapter's example.
func TestUnifyExample(t *testing.T) {
	l, e := unify.Unify(short(), api.Term{0, -1, 1, -1}, api.Term{0, 1, -2, -3})
	want := []api.Bind{{Var: 0, To: api.Term{1, -2}}, {Var: 2, To: api.Term{1, 1, -2}}}
	if e != api.OK || !sameBinds(l, want) {
		t.Errorf("Unify = %v, %d", l, e)
	}
}

// P2.4: terms unify just if there is a unifier, and what any unifier makes is
// an instance of what Unify's makes. Where two of these terms unify, there is a
// unifier of at most three numbers a variable.
func TestUnifyIsMostGeneral(t *testing.T) {
	s := short()
	unifiers := smallBinds(3)
	all := slices.DeleteFunc(small(4), func(u api.Term) bool { return u[0] < 0 })
	for _, a := range all {
		for _, b := range all {
			l, e := unify.Unify(s, a, b)
			u, _ := unify.Unified(s, a, b)
			some := false
			for _, m := range unifiers {
				made := sample.Put(m, a)
				if !slices.Equal(made, sample.Put(m, b)) {
					continue
				}
				some = true
				if !unify.Instance(s, u, made) {
					t.Fatalf("Unified(%v, %v) = %v, but %v makes %v", a, b, u, m, made)
				}
			}
			if !some {
				checkApart(t, s, a, b)
			} else if e != api.OK {
				t.Errorf("Unify(%v, %v): %d", a, b, e)
			} else {
				checkUnified(t, s, a, b, l)
			}
		}
	}
}

// 2.3, P2.4: with random terms, against the other way.
func TestUnifyOfRandomTerms(t *testing.T) {
	done := map[api.Errno]int{}
	pairs(func(s api.Sign, a, b api.Term) {
		if len(a) > api.MaxSize || len(b) > api.MaxSize {
			return
		}
		want, unifiable := sample.Unifier(s, a, b)
		l, e := unify.Unify(s, a, b)
		done[e]++
		if !unifiable {
			checkApart(t, s, a, b)
			return
		}
		long := slices.ContainsFunc(want, func(bind api.Bind) bool { return len(bind.To) > api.MaxSize })
		if long {
			u, f := unify.Unified(s, a, b)
			if e != api.ErrLimit || len(l) != 0 || f != api.ErrLimit || len(u) != 0 || !unify.Unifiable(s, a, b) {
				t.Errorf("Unify(%v, %v) = %v, %d; %v, %d", a, b, l, e, u, f)
			}
			return
		}
		if e != api.OK {
			t.Errorf("Unify(%v, %v): %d", a, b, e)
			return
		}
		checkUnified(t, s, a, b, l)
		if len(sample.Put(want, a)) <= api.MaxSize && !term.Alike(s, sample.Put(want, a), sample.Put(l, a)) {
			t.Errorf("Unify(%v, %v) = %v is not most general", a, b, l)
		}
	})
	if done[api.OK] < 1000 || done[api.ErrNone] < 1000 || done[api.ErrLimit] < 5 {
		t.Errorf("%v", done)
	}
}

// 2.3: however great the terms become. 2^11 places are no term any more.
func TestUnifyOfGreatTerms(t *testing.T) {
	s := short()
	for n := 1; n <= 11; n++ {
		a, b := doubled(n)
		l, e := unify.Unify(s, a, b)
		u, f := unify.Unified(s, a, b)
		great := 1<<(n+1)-1 > api.MaxSize
		common := len(sample.Chain(sample.Vars(1, n)...)) - n
		for k := 1; k <= n; k++ {
			common += 1<<(k+1) - 1
		}
		if !unify.Unifiable(s, a, b) || !unify.Unifiable(s, b, a) {
			t.Errorf("Unifiable of %d doubles", n)
		}
		if great != (e == api.ErrLimit) || great && len(l) != 0 || !great && (e != api.OK || len(l) != n) {
			t.Errorf("Unify of %d doubles = %v, %d", n, l, e)
		}
		if common > api.MaxSize != (f == api.ErrLimit) || f == api.OK && len(u) != common {
			t.Errorf("Unified of %d doubles = %v, %d", n, u, f)
		}
	}
}

// 2.3: a variable that comes in itself is found behind 2^10 places, too, and so
// is a clash of symbols.
func TestUnifiableOfGreatTerms(t *testing.T) {
	s := short()
	a, b := doubled(10)
	for _, test := range []struct {
		u, w api.Term
		want bool
	}{
		{api.Term{-12}, api.Term{1, -11}, true}, {api.Term{-1}, api.Term{1, -11}, false}, {api.Term{-1}, api.Term{2}, true},
		{api.Term{-11}, api.Term{1, -12}, false}, {api.Term{-11}, api.Term{0, -12, -10}, true}, {api.Term{-11}, api.Term{0, -12, -9}, false},
	} {
		left, right := slices.Concat(api.Term{0}, test.u, a), slices.Concat(api.Term{0}, test.w, b)
		if unify.Unifiable(s, left, right) != test.want || unify.Unifiable(s, right, left) != test.want {
			t.Errorf("with %v and %v", test.u, test.w)
		}
		if _, e := unify.Unified(s, left, right); test.want && e != api.ErrLimit || !test.want && e != api.ErrNone {
			t.Errorf("with %v and %v: %d", test.u, test.w, e)
		}
	}
}

// 2.3: a term of just MaxSize numbers is none too many.
func TestUnifyLimit(t *testing.T) {
	s := sample.Sign()
	tests := []struct {
		a, b        api.Term
		unify, unit api.Errno
	}{
		{api.Term{0, -1, 1, -2}, api.Term{0, sample.Tower(30)[0], -3, -1}, api.OK, api.OK},
		{api.Term{0, -1, 2}, slices.Concat(api.Term{0}, sample.Tower(58), api.Term{2}), api.OK, api.OK},
		{api.Term{0, -1, -2}, slices.Concat(api.Term{0}, sample.Tower(57), api.Term{1, -1}), api.OK, api.ErrLimit},
		{api.Term{0, -1, -2}, slices.Concat(api.Term{0}, sample.Tower(29), api.Term{1, -1}), api.OK, api.OK},
		{api.Term{0, -1, -2}, slices.Concat(api.Term{0}, sample.Tower(29), api.Term{1, 1, -1}), api.OK, api.ErrLimit},
		{api.Term{0, -1, -2}, slices.Concat(api.Term{0}, sample.Tower(29), api.Term{0, -1, -1}), api.OK, api.ErrLimit},
		{api.Term{0, -1, -2}, slices.Concat(api.Term{0}, sample.Tower(30), api.Term{0, -1, -1}), api.ErrLimit, api.ErrLimit},
	}
	for _, test := range tests {
		l, e := unify.Unify(s, test.a, test.b)
		u, f := unify.Unified(s, test.a, test.b)
		if e != test.unify || f != test.unit || e != api.OK && len(l) > 0 || f != api.OK && len(u) > 0 {
			t.Errorf("%v and %v: %v, %d; %v, %d", test.a, test.b, l, e, u, f)
		}
	}
}

// 2.3
func TestUnifies(t *testing.T) {
	s := sample.Sign()
	a, b := api.Term{0, -1, 1, -1}, api.Term{0, 1, -2, -3}
	tests := []struct {
		l    []api.Bind
		want bool
	}{
		{nil, false}, {[]api.Bind{{Var: 0, To: api.Term{1, -2}}, {Var: 2, To: api.Term{1, 1, -2}}}, true}, {[]api.Bind{{Var: 0, To: api.Term{1, -2}}}, false},
		{[]api.Bind{{Var: 0, To: api.Term{1, 2}}, {Var: 1, To: api.Term{2}}, {Var: 2, To: api.Term{1, 1, 2}}, {Var: 7, To: api.Term{2}}}, true},
		{[]api.Bind{{Var: 0, To: api.Term{1, -1}}, {Var: 1, To: api.Term{-1}}, {Var: 2, To: api.Term{1, 1, -1}}}, true},
		{[]api.Bind{{Var: 0, To: api.Term{1, -2}}, {Var: 1, To: api.Term{2}}, {Var: 2, To: api.Term{1, 1, -2}}}, false},
	}
	for _, test := range tests {
		if unify.Unifies(s, test.l, a, b) != test.want || unify.Unifies(s, test.l, b, a) != test.want {
			t.Errorf("Unifies(%v) is not %v", test.l, test.want)
		}
	}
}

// 2.3: Unifies tells of terms that are far too long, up to 3600 numbers.
func TestUnifiesOfGreatTerms(t *testing.T) {
	s := short()
	a, b := append(slices.Repeat(api.Term{1}, 59), -1), append(slices.Repeat(api.Term{1}, 59), -2)
	long := append(slices.Repeat(api.Term{1}, 59), -3)
	l := []api.Bind{{Var: 0, To: long}, {Var: 1, To: long}}
	if !unify.Unifies(s, l, a, b) || unify.Unifies(s, l[:1], a, b) {
		t.Error("Unifies of towers")
	}
	l[1].To = append(slices.Repeat(api.Term{1}, 59), -4)
	if unify.Unifies(s, l, a, b) {
		t.Error("Unifies of towers that differ in their last number")
	}
	wide := []api.Term{}
	for range 30 {
		wide = append(wide, api.Term{-1})
	}
	row := sample.Chain(wide...)
	if !unify.Unifies(s, []api.Bind{{Var: 0, To: row}}, row, row) {
		t.Error("Unifies of a row of rows")
	}
}
