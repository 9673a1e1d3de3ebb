package unify_test

import (
	"slices"
	"testing"

	"lemmary/api"
	"lemmary/sample"
	"lemmary/term"
	"lemmary/unify"
)

// 2.4
func TestMeet(t *testing.T) {
	s := sample.Sign()
	tests := []struct{ a, b, meet api.Term }{
		{api.Term{-3}, api.Term{-3}, api.Term{-1}}, {api.Term{-1}, api.Term{1, -1}, api.Term{1, -1}}, {api.Term{-1}, api.Term{0, -4, 1, -1}, api.Term{0, -1, 1, -2}},
		{api.Term{0, -1, 2}, api.Term{0, 1, -1, -2}, api.Term{0, 1, -1, 2}}, {api.Term{0, -1, -1}, api.Term{0, -1, -2}, api.Term{0, -1, -1}},
		{api.Term{0, -1, -1}, api.Term{0, -1, 1, -1}, nil}, {api.Term{0, -1, 1, -1}, api.Term{0, -2, -1}, api.Term{0, -1, 1, -1}}, {api.Term{2}, api.Term{1, 2}, nil},
		{api.Term{0, -1, 1, -2}, api.Term{0, 1, -2, -1}, api.Term{0, 1, -1, 1, -2}}, {api.Term{3, -1, -1, -2}, api.Term{3, -1, -2, -2}, api.Term{3, -1, -1, -1}},
		{sample.Tower(60), api.Term{-12}, sample.Tower(60)}, {sample.Tower(60), sample.Tower(59), nil},
	}
	for _, test := range tests {
		for _, pair := range [][2]api.Term{{test.a, test.b}, {test.b, test.a}} {
			meet, e := unify.Meet(s, pair[0], pair[1])
			meets := unify.Meets(s, pair[0], pair[1])
			if test.meet == nil && (e != api.ErrNone || len(meet) > 0 || meets) || test.meet != nil && (e != api.OK || !slices.Equal(meet, test.meet) || !meets) {
				t.Errorf("Meet(%v, %v) = %v, %d; %v", pair[0], pair[1], meet, e, meets)
			}
		}
	}
}

// P2.5: a meet has as instances just those that both have.
func TestMeetIsABound(t *testing.T) {
	s := short()
	instances := small(6)
	for _, a := range small(4) {
		for _, b := range small(4) {
			meet, e := unify.Meet(s, a, b)
			if e == api.OK && !(unify.Instance(s, a, meet) && unify.Instance(s, b, meet) && term.IsCanonical(s, meet)) {
				t.Errorf("Meet(%v, %v) = %v", a, b, meet)
			}
			for _, c := range instances {
				both := unify.Instance(s, a, c) && unify.Instance(s, b, c)
				if both != (e == api.OK && unify.Instance(s, meet, c)) {
					t.Fatalf("Meet(%v, %v) = %v, %d, and %v", a, b, meet, e, c)
				}
			}
		}
	}
}

// P2.5, against another way to unify, with the variables of b 20 higher.
func TestMeetOfRandomTerms(t *testing.T) {
	done := map[api.Errno]int{}
	pairs(func(s api.Sign, a, b api.Term) {
		if len(a) > api.MaxSize || len(b) > api.MaxSize {
			return
		}
		l, meets := sample.Unifier(s, a, sample.Apart(b, 20))
		meet, e := unify.Meet(s, a, b)
		back, f := unify.Meet(s, b, a)
		done[e]++
		if f != e || !slices.Equal(meet, back) || unify.Meets(s, a, b) != meets {
			t.Errorf("Meet(%v, %v) = %v, %d; %v, %d", a, b, meet, e, back, f)
		}
		want := api.Errno(api.OK)
		made := sample.Put(l, a)
		free := map[int]bool{}
		for _, x := range made {
			if x < 0 {
				free[x] = true
			}
		}
		if len(made) > api.MaxSize || len(free) > api.MaxVars {
			want = api.ErrLimit
		}
		if !meets {
			want = api.ErrNone
		}
		if e != want || e != api.OK && len(meet) > 0 {
			t.Errorf("Meet(%v, %v) = %v, %d", a, b, meet, e)
		}
		if e == api.OK && !(unify.Instance(s, a, meet) && unify.Instance(s, b, meet) && term.IsCanonical(s, meet) && len(meet) == len(made)) {
			t.Errorf("Meet(%v, %v) = %v", a, b, meet)
		}
	})
	if done[api.OK] < 1000 || done[api.ErrNone] < 1000 || done[api.ErrLimit] < 5 {
		t.Errorf("%v", done)
	}
}

// 2.4: terms with 24 variables meet in one that has 12, or has too many.
func TestMeetLimit(t *testing.T) {
	s := short()
	twelve := sample.Chain(sample.Vars(0, 11)...)
	if meet, e := unify.Meet(s, twelve, sample.Chain(sample.Vars(0, 11)...)); e != api.OK || !slices.Equal(meet, twelve) {
		t.Errorf("Meet = %v, %d", meet, e)
	}
	if meet, e := unify.Meet(s, slices.Concat(api.Term{0, -1}, api.Term{1, -1}), slices.Concat(api.Term{0}, twelve, api.Term{-1})); e != api.ErrNone || len(meet) > 0 {
		t.Errorf("Meet = %v, %d", meet, e)
	}
	left, right := slices.Concat(api.Term{0, -1}, api.Term{0, -2, -3}), slices.Concat(api.Term{0}, twelve, api.Term{-1})
	if meet, e := unify.Meet(s, left, right); e != api.ErrLimit || len(meet) > 0 || !unify.Meets(s, left, right) {
		t.Errorf("Meet of 13 variables = %v, %d", meet, e)
	}
	left = slices.Concat(api.Term{0, -1}, api.Term{0, -2, -2})
	if meet, e := unify.Meet(s, left, right); e != api.OK || len(meet) != 1+25+3 {
		t.Errorf("Meet of 12 variables = %v, %d", meet, e)
	}
	half := append(slices.Repeat(api.Term{1}, 29), -1)
	left = api.Term{0, -1, -1}
	for size, want := range map[int]api.Errno{29: api.OK, 30: api.ErrLimit} {
		right = slices.Concat(api.Term{0}, half[30-size:], api.Term{-2})
		if meet, e := unify.Meet(s, left, right); e != want || len(meet) != 59 && e == api.OK || len(meet) > 0 && e != api.OK || !unify.Meets(s, left, right) {
			t.Errorf("Meet of %d = %v, %d", size, meet, e)
		}
	}
}

// 2.4: however great the terms become: here each variable of one side is the
// double of one of the other side, with 2^22 places in all.
func TestMeetsOfGreatTerms(t *testing.T) {
	s := short()
	left, right := []api.Term{}, []api.Term{}
	for v := range 11 {
		x, next := api.Term{-v - 1}, api.Term{-v - 2}
		left = append(left, next, slices.Concat(api.Term{0}, x, x))
		right = append(right, slices.Concat(api.Term{0}, x, x), x)
	}
	left, right = left[:20], right[:20]
	a, b := sample.Chain(left...), sample.Chain(right...)
	if len(a) > api.MaxSize || len(b) > api.MaxSize {
		t.Fatalf("%d and %d numbers", len(a), len(b))
	}
	if meet, e := unify.Meet(s, a, b); e != api.ErrLimit || len(meet) > 0 || !unify.Meets(s, a, b) || !unify.Meets(s, b, a) {
		t.Errorf("Meet = %v, %d", meet, e)
	}
}

// 2.4
func TestJoin(t *testing.T) {
	s := sample.Sign()
	tests := []struct{ a, b, join api.Term }{
		{api.Term{0, -1, -1}, api.Term{0, 1, -1, 1, -2}, api.Term{0, -1, -2}}, {api.Term{-3}, api.Term{2}, api.Term{-1}}, {api.Term{2}, api.Term{2}, api.Term{2}},
		{api.Term{2}, api.Term{1, 2}, api.Term{-1}}, {api.Term{-3}, api.Term{-3}, api.Term{-1}}, {api.Term{0, -1, -2}, api.Term{0, -2, -1}, api.Term{0, -1, -2}},
		{api.Term{0, -1, -2}, api.Term{0, -2, -2}, api.Term{0, -1, -2}}, {api.Term{0, -5, -5}, api.Term{0, 1, 2, 1, 2}, api.Term{0, -1, -1}},
		{api.Term{3, 2, 1, -1, 0, 2, 2}, api.Term{3, 2, 1, 2, 0, -1, 2}, api.Term{3, 2, 1, -1, 0, -2, 2}},
		{api.Term{0, 0, -1, -2, 0, -2, -1}, api.Term{0, 0, 2, 1, 2, 0, 1, 2, 2}, api.Term{0, 0, -1, -2, 0, -2, -1}},
		{api.Term{0, 0, -1, -1, -1}, api.Term{0, 2, 2}, api.Term{0, -1, -2}}, {api.Term{3, 0, -1, -1, 0, -1, -1, 2}, api.Term{3, 1, 2, 1, 2, -8}, api.Term{3, -1, -1, -2}},
		{sample.Tower(60), sample.Tower(59), append(slices.Repeat(api.Term{1}, 58), -1)}, {sample.Tower(60), sample.Tower(60), sample.Tower(60)},
	}
	for _, test := range tests {
		for _, pair := range [][2]api.Term{{test.a, test.b}, {test.b, test.a}} {
			if join, e := unify.Join(s, pair[0], pair[1]); e != api.OK || !slices.Equal(join, test.join) {
				t.Errorf("Join(%v, %v) = %v, %d", pair[0], pair[1], join, e)
			}
		}
	}
}

// P2.5: of all terms, those that have both as instances are the ones that have
// their join as an instance.
func TestJoinIsABound(t *testing.T) {
	s := short()
	above := sample.SmallTerms(s, 4, 0, 1, 2)
	for _, a := range small(4) {
		for _, b := range small(5) {
			join, e := unify.Join(s, a, b)
			if e != api.OK || !term.IsCanonical(s, join) || len(join) > min(len(a), len(b)) {
				t.Fatalf("Join(%v, %v) = %v, %d", a, b, join, e)
			}
			for _, c := range above {
				both := unify.Instance(s, c, a) && unify.Instance(s, c, b)
				if both != unify.Instance(s, c, join) {
					t.Fatalf("Join(%v, %v) = %v, and %v", a, b, join, c)
				}
			}
		}
	}
}

// 2.4: 12 variables are none too many for a join, 13 are.
func TestJoinLimit(t *testing.T) {
	s := short()
	a := sample.Chain(append(sample.Vars(0, 11), api.Term{-1})...)
	if join, e := unify.Join(s, a, sample.Chain(append(sample.Vars(0, 11), api.Term{-1})...)); e != api.OK || !slices.Equal(join, a) {
		t.Errorf("Join = %v, %d", join, e)
	}
	for _, last := range []api.Term{{-2}, {2}, {1, -1}} {
		if join, e := unify.Join(s, a, sample.Chain(append(sample.Vars(0, 11), last)...)); e != api.ErrLimit || len(join) > 0 {
			t.Errorf("Join with %v = %v, %d", last, join, e)
		}
	}
}

// P2.5: with random terms.
func TestMeetJoinAndInstance(t *testing.T) {
	some := 0
	pairs(func(s api.Sign, a, b api.Term) {
		if len(a) > api.MaxSize || len(b) > api.MaxSize {
			return
		}
		meet, e := unify.Meet(s, a, b)
		join, f := unify.Join(s, a, b)
		back, g := unify.Join(s, b, a)
		below := unify.Instance(s, a, b)
		if below {
			some++
		}
		if below != (e == api.OK && term.Alike(s, meet, b)) || below != (f == api.OK && term.Alike(s, join, a)) {
			t.Errorf("%v and %v: %v, %d; %v, %d", a, b, meet, e, join, f)
		}
		if f != g || !slices.Equal(join, back) || f == api.OK && !(unify.Instance(s, join, a) && unify.Instance(s, join, b) && term.IsCanonical(s, join)) {
			t.Errorf("Join(%v, %v) = %v, %d; %v, %d", a, b, join, f, back, g)
		}
	})
	if some < 1000 {
		t.Errorf("only %d instances", some)
	}
}

// 2.4: of random terms that have a common instance there is a meet above it.
func TestMeetOfCommonInstance(t *testing.T) {
	var d sample.Dice
	s := sample.Sign()
	for range 3000 {
		c := d.Term(s, 30, api.MaxVars)
		a, b := above(&d, c), above(&d, c)
		meet, e := unify.Meet(s, a, b)
		if e != api.ErrLimit && (e != api.OK || !unify.Instance(s, meet, c)) || !unify.Meets(s, a, b) {
			t.Errorf("Meet(%v, %v) = %v, %d, but there is %v", a, b, meet, e, c)
		}
	}
}

// above returns a term that has another one as an instance: some parts of it
// become variables.
func above(d *sample.Dice, c api.Term) api.Term {
	s := sample.Sign()
	parts, _ := term.Parts(s, c)
	part := parts[d.Roll(len(parts))]
	places, _ := term.Paths(s, c, part)
	unused := slices.IndexFunc(sample.Vars(0, 11), func(x api.Term) bool { return !slices.Contains(c, x[0]) })
	if unused < 0 {
		return c
	}
	u := c
	for _, path := range places {
		u, _ = term.Put(s, u, path, api.Term{-unused - 1})
	}
	return u
}
