package kernel_test

import (
	"slices"
	"testing"

	"lemmary/api"
	"lemmary/kernel"
	"lemmary/sample"
	"lemmary/term"
	"lemmary/unify"
)

// checkDetach fails unless a major and a minor have this detachment, or error.
func checkDetach(t *testing.T, s api.Sign, m, n, want api.Term, e api.Errno) {
	t.Helper()
	u, f := kernel.Detach(s, m, n)
	if f != e || !slices.Equal(u, want) {
		t.Errorf("Detach(%v, %v) = %v, %d; want %v, %d", m, n, u, f, want, e)
	}
	if is := kernel.Detaches(s, m, n); is != (e == api.OK || e == api.ErrLimit) {
		t.Errorf("Detaches(%v, %v) = %v", m, n, is)
	}
}

// 4.1
func TestDetach(t *testing.T) {
	s := sample.Sign()
	tests := []struct{ m, n, want api.Term }{
		{sample.K(), sample.K(), api.Term{0, -1, 0, -2, 0, -3, -2}},
		{sample.S(), sample.K(), api.Term{0, 0, -1, -2, 0, -1, -1}},
		{api.Term{0, 0, -1, -2, 0, -1, -1}, sample.K(), api.Term{0, -1, -1}},
		{api.Term{0, 1, -1, -1}, api.Term{1, 2}, api.Term{2}},
		{api.Term{0, 1, -1, -1}, api.Term{-1}, api.Term{-1}},
		{api.Term{0, -1, -1}, api.Term{0, -1, 1, -12}, api.Term{0, -1, 1, -2}},
		{api.Term{0, 1, -5, 0, -7, -5}, api.Term{1, 3, -7, -5, -7}, api.Term{0, -1, 3, -2, -3, -2}},
		{api.Term{0, -1, 0, -2, -1}, api.Term{-2}, api.Term{0, -1, -2}},
		{api.Term{0, 0, -1, -1, -1}, api.Term{0, 1, -1, -2}, api.Term{1, -1}},
		{api.Term{0, 0, -1, 1, -2, -2}, api.Term{0, -2, -2}, api.Term{-1}},
		{api.Term{0, 2, -9}, api.Term{2}, api.Term{-1}},
		{api.Term{0, 2, 2}, api.Term{-1}, api.Term{2}},
		{api.Term{0, 3, -1, -2, -3, 3, -3, -2, -1}, api.Term{3, -1, -1, 2}, api.Term{3, 2, -1, -1}},
		{api.Term{0, 3, -1, -1, -2, 0, -1, -2}, api.Term{3, 1, -1, -2, 0, -1, -2}, api.Term{0, 1, -1, 0, -1, 1, -1}},
	}
	for _, test := range tests {
		checkDetach(t, s, test.m, test.n, test.want, api.OK)
	}
}

// 4.1: ErrState ahead of ErrNone, and the top is the first symbol or not,
// whatever its name.
func TestDetachNothing(t *testing.T) {
	s := sample.Sign()
	for _, m := range []api.Term{{-1}, {-12}, {1, -1}, {2}, {3, -1, -1, -1}, {1, 0, -1, -1}, {3, 2, 2, 2}} {
		for _, n := range []api.Term{{-1}, {2}, {0, -1, -1}} {
			checkDetach(t, s, m, n, nil, api.ErrState)
		}
	}
	for _, test := range [][2]api.Term{
		{{0, 2, -1}, {1, -1}}, {{0, 1, -1, -1}, {2}}, {{0, 1, 2, -1}, {1, 1, -1}}, {{0, 0, -1, -1, -1}, {0, -1, 1, -1}}, {{0, 0, -1, 1, -1, 2}, {0, -1, -1}},
		{{0, 0, -1, -2, -3}, {2}}, {{0, 3, -1, -2, -1, 2}, {3, 2, -1, 1, -1}}, {{0, 0, 0, -1, -2, -1, 2}, {0, 0, -1, 1, -1, 1, -1}},
	} {
		checkDetach(t, s, test[0], test[1], nil, api.ErrNone)
	}
	other := api.Sign{{Name: "N", Arity: 2}, {Name: "C", Arity: 2}}
	checkDetach(t, other, api.Term{1, -1, -1}, api.Term{-1}, nil, api.ErrState)
	checkDetach(t, other, api.Term{0, -1, -1}, api.Term{-1}, api.Term{-1}, api.OK)
}

// 4.1: 60 numbers are none too many, 61 are.
func TestDetachLimitOfNumbers(t *testing.T) {
	s := sample.Sign()
	tests := []struct {
		b    api.Term // of a major "if x0, then B"
		size int      // of the minor
		want int      // numbers of the detachment
	}{
		{api.Term{1, -1}, 59, 60}, {api.Term{1, -1}, 60, 61}, {api.Term{0, -1, -1}, 29, 59}, {api.Term{0, -1, -1}, 30, 61}, {api.Term{1, 0, -1, -1}, 29, 60},
		{api.Term{-1}, 60, 60}, {api.Term{-2}, 60, 1}, {api.Term{3, -1, -1, -1}, 19, 58}, {api.Term{3, -1, -1, -1}, 20, 61}, {api.Term{3, -1, -1, -1}, 60, 181},
		{append(slices.Repeat(api.Term{1}, 57), -1), 3, 60}, {append(slices.Repeat(api.Term{1}, 57), -1), 4, 61},
	}
	for _, test := range tests {
		n := sample.Tower(test.size)
		want, e := form(sample.Put([]api.Bind{{Var: 0, To: n}}, test.b))
		checkDetach(t, s, append(api.Term{0, -1}, test.b...), n, want, e)
		if (test.want > api.MaxSize) != (e == api.ErrLimit) {
			t.Errorf("%v has not %d numbers", want, test.want)
		}
	}
}

// 4.1: 12 variables are none too many, 13 are; the variables that the major and
// the minor have together may be 24.
func TestDetachLimitOfVariables(t *testing.T) {
	s := short()
	eleven, twelve := sample.Chain(sample.Vars(0, 10)...), sample.Chain(sample.Vars(0, 11)...)
	checkDetach(t, s, api.Term{0, -1, -1}, twelve, twelve, api.OK)
	checkDetach(t, s, api.Term{0, -1, 0, -1, -2}, eleven, slices.Concat(api.Term{0}, eleven, api.Term{-12}), api.OK)
	checkDetach(t, s, api.Term{0, -1, 0, -1, -2}, twelve, nil, api.ErrLimit)
	checkDetach(t, s, api.Term{0, -1, 0, -2, -1}, twelve, nil, api.ErrLimit)
	checkDetach(t, s, slices.Concat(api.Term{0}, twelve, twelve), twelve, twelve, api.OK)
	checkDetach(t, s, slices.Concat(api.Term{0, -1}, twelve), twelve, nil, api.ErrLimit)
	checkDetach(t, s, slices.Concat(api.Term{0, 2}, twelve), api.Term{-7}, twelve, api.OK)
	row := sample.Chain(sample.Vars(1, 11)...)
	checkDetach(t, s, slices.Concat(api.Term{0, 0, -1, -1}, row), slices.Concat(api.Term{0, -12}, api.Term{-11}), eleven, api.OK)
	checkDetach(t, s, slices.Concat(api.Term{0, -1, 0, -1}, row), api.Term{0, -1, -2}, nil, api.ErrLimit)
}

// 4.1: nothing but the detachment has to be small: neither the minor nor what
// the premise becomes.
func TestDetachOfGreatPremises(t *testing.T) {
	s := sample.Sign()
	checkDetach(t, s, api.Term{0, 3, -1, -1, -1, -2}, api.Term{3, -1, -2, -3}, api.Term{-1}, api.OK)
	checkDetach(t, s, api.Term{0, 0, -1, -1, -2}, slices.Concat(api.Term{0, -1}, sample.Tower(58)), api.Term{-1}, api.OK)
	checkDetach(t, s, api.Term{0, 0, -1, -1, 1, -1}, slices.Concat(api.Term{0, -1}, sample.Tower(58)), sample.Tower(59), api.OK)
	checkDetach(t, s, api.Term{0, 0, -1, -1, 1, 1, 1, -1}, slices.Concat(api.Term{0, -1}, sample.Tower(58)), nil, api.ErrLimit)
	for n := 1; n <= 8; n++ {
		a, minor := doubled(n)
		for b, want := range []api.Term{{2}, {3, -1, -1, -1}} {
			x := []api.Term{{2}, {-2}}[b]
			checkDetach(t, s, slices.Concat(api.Term{0}, a, x), minor, want, api.OK)
		}
		for v := 2; v <= n; v++ {
			u, e := kernel.Detach(s, slices.Concat(api.Term{0}, a, api.Term{-v - 1}), minor)
			if v == 2 && (len(u) != 40 || e != api.OK) || v > 2 && (len(u) != 0 || e != api.ErrLimit) {
				t.Errorf("Detach of the variable %d of %d = %v, %d", v, n, u, e)
			}
			if !kernel.Detaches(s, slices.Concat(api.Term{0}, a, api.Term{-v - 1}), minor) {
				t.Errorf("Detaches of the variable %d of %d", v, n)
			}
		}
	}
}

// 4.1: a variable that comes in itself, and a clash of symbols, are found in
// great terms, too.
func TestDetachNothingOfGreatPremises(t *testing.T) {
	s := sample.Sign()
	a, minor := doubled(7)
	for _, test := range []struct {
		x, y api.Term
		e    api.Errno
	}{{api.Term{-8}, api.Term{3, -7, -7, -7}, api.OK}, {api.Term{-8}, api.Term{3, -8, -7, -7}, api.ErrNone}, {api.Term{-8}, api.Term{2}, api.ErrNone}, {api.Term{1, -8}, api.Term{1, -9}, api.OK}} {
		m, n := slices.Concat(api.Term{0, 0}, test.x, a, api.Term{2}), slices.Concat(api.Term{0}, test.y, minor)
		if test.e == api.OK {
			checkDetach(t, s, m, n, api.Term{2}, api.OK)
		} else {
			checkDetach(t, s, m, n, nil, test.e)
		}
	}
}

// 4.1, P4.2: with random terms, against another way to detach.
func TestDetachOfRandomTerms(t *testing.T) {
	done := map[api.Errno]int{}
	detachments(30000, func(s api.Sign, m, n api.Term) {
		want, e := detached(s, m, n)
		checkDetach(t, s, m, n, want, e)
		done[e]++
	})
	for _, e := range []api.Errno{api.OK, api.ErrState, api.ErrNone, api.ErrLimit} {
		if done[e] < 100 {
			t.Errorf("%v", done)
		}
	}
}

// P4.2: what any binds make of a major and of a minor is an instance of the
// detachment. Where there is one of these terms, small binds lead to one.
func TestDetachIsMostGeneral(t *testing.T) {
	s := short()
	small := sample.SmallTerms(s, 3, 0, 1)
	for _, a := range small {
		for _, b := range []api.Term{{-1}, {-2}, {1, -2}, {0, -1, -2}} {
			m := slices.Concat(api.Term{0}, a, b)
			for _, n := range small {
				u, e := kernel.Detach(s, m, n)
				some := false
				for _, x := range small {
					for _, y := range small {
						l := []api.Bind{{Var: 0, To: x}, {Var: 1, To: y}}
						if !unify.Instance(s, n, sample.Put(l, a)) {
							continue
						}
						some = true
						if e != api.OK || !unify.Instance(s, u, sample.Put(l, b)) {
							t.Fatalf("Detach(%v, %v) = %v, %d, and %v", m, n, u, e, l)
						}
					}
				}
				if !some && e != api.ErrNone {
					t.Errorf("Detach(%v, %v) = %v, %d", m, n, u, e)
				}
			}
		}
	}
}

// P4.2: the names of variables mean nothing.
func TestDetachOfAlikeTerms(t *testing.T) {
	var d sample.Dice
	detachments(5000, func(s api.Sign, m, n api.Term) {
		u, e := kernel.Detach(s, m, n)
		if e == api.OK && !term.IsCanonical(s, u) {
			t.Errorf("Detach(%v, %v) = %v", m, n, u)
		}
		for _, other := range [][2]api.Term{{renamed(&d, m), n}, {m, renamed(&d, n)}, {renamed(&d, m), renamed(&d, n)}} {
			checkDetach(t, s, other[0], other[1], u, e)
		}
	})
}

// renamed returns a term with other names of its variables.
func renamed(d *sample.Dice, t api.Term) api.Term {
	names := []api.Term{}
	for v := range api.MaxVars {
		names = slices.Insert(names, d.Roll(v+1), api.Term{-v - 1})
	}
	l := []api.Bind{}
	for v, name := range names {
		l = append(l, api.Bind{Var: v, To: name})
	}
	return sample.Put(l, t)
}
