package unify_test

import (
	"slices"
	"testing"

	"lemmary/api"
	"lemmary/sample"
	"lemmary/unify"
)

// wrongBinds holds binds that are not valid for the sign of package sample.
func wrongBinds() [][]api.Bind {
	wrong := [][]api.Bind{
		{{Var: -1, To: api.Term{2}}}, {{Var: 12, To: api.Term{2}}}, {{Var: 0, To: api.Term{-1}}}, {{Var: 11, To: api.Term{-12}}},
		{{Var: 1, To: api.Term{2}}, {Var: 0, To: api.Term{2}}}, {{Var: 3, To: api.Term{2}}, {Var: 3, To: api.Term{2}}},
		{{Var: 3, To: api.Term{2}}, {Var: 4, To: api.Term{-5}}}, {{Var: 3, To: api.Term{2}}, {Var: 12, To: api.Term{2}}},
		slices.Repeat([]api.Bind{{Var: 0, To: api.Term{2}}}, 100000),
	}
	for _, t := range sample.WrongTerms() {
		wrong = append(wrong, []api.Bind{{Var: 0, To: t}}, []api.Bind{{Var: 0, To: api.Term{2}}, {Var: 1, To: t}})
	}
	return wrong
}

// 2.1
func TestValidBinds(t *testing.T) {
	full := []api.Bind{}
	for v := range api.MaxVars {
		full = append(full, api.Bind{Var: v, To: sample.Tower(60 - v)})
	}
	for _, l := range [][]api.Bind{nil, {}, full, {{Var: 0, To: api.Term{1, -1}}}, {{Var: 0, To: api.Term{-2}}, {Var: 1, To: api.Term{-1}}}, {{Var: 11, To: api.Term{-1}}}} {
		if !unify.ValidBinds(sample.Sign(), l) {
			t.Errorf("%v are not valid", l)
		}
	}
	for _, l := range wrongBinds() {
		if unify.ValidBinds(sample.Sign(), l) {
			t.Errorf("%v are valid", l)
		}
	}
	for _, s := range sample.WrongSigns() {
		if unify.ValidBinds(s, nil) || unify.ValidBinds(s, []api.Bind{{Var: 0, To: api.Term{-2}}}) {
			t.Errorf("binds are valid for %v", s)
		}
	}
}

// 2.1
func TestApply(t *testing.T) {
	tests := []struct {
		l    []api.Bind
		u, w api.Term
	}{
		{nil, api.Term{0, -3, 2}, api.Term{0, -3, 2}},
		{[]api.Bind{{Var: 0, To: api.Term{1, -2}}}, api.Term{0, -1, 0, -2, -1}, api.Term{0, 1, -2, 0, -2, 1, -2}},
		{[]api.Bind{{Var: 0, To: api.Term{-2}}, {Var: 1, To: api.Term{-1}}}, api.Term{0, -1, -2}, api.Term{0, -2, -1}},
		{[]api.Bind{{Var: 0, To: api.Term{-2}}, {Var: 1, To: api.Term{2}}}, api.Term{0, -1, -2}, api.Term{0, -2, 2}},
		{[]api.Bind{{Var: 0, To: api.Term{0, -1, -1}}}, api.Term{0, -1, -1}, api.Term{0, 0, -1, -1, 0, -1, -1}},
		{[]api.Bind{{Var: 11, To: api.Term{3, -1, 2, -12}}}, api.Term{1, -12}, api.Term{1, 3, -1, 2, -12}},
		{[]api.Bind{{Var: 5, To: api.Term{2}}}, sample.Tower(60), sample.Tower(60)},
	}
	for _, test := range tests {
		if w, e := unify.Apply(sample.Sign(), test.l, test.u); e != api.OK || !slices.Equal(w, test.w) {
			t.Errorf("Apply(%v, %v) = %v, %d", test.l, test.u, w, e)
		}
	}
}

// 2.1: ErrLimit of Apply, just above MaxSize.
func TestApplyLimit(t *testing.T) {
	u := api.Term{0, -1, -1}
	for size, want := range map[int]api.Errno{29: api.OK, 30: api.ErrLimit, 60: api.ErrLimit} {
		l := []api.Bind{{Var: 0, To: sample.Tower(size)}}
		if w, e := unify.Apply(sample.Sign(), l, u); e != want || (e == api.OK) != (len(w) == 59) {
			t.Errorf("Apply of a tower of %d = %v, %d", size, w, e)
		}
	}
	l := []api.Bind{{Var: 0, To: sample.Tower(59)}}
	if w, e := unify.Apply(sample.Sign(), l, api.Term{1, -1}); e != api.OK || len(w) != 60 {
		t.Errorf("Apply = %v, %d", w, e)
	}
	if w, e := unify.Apply(sample.Sign(), l, api.Term{1, 1, -1}); e != api.ErrLimit || len(w) != 0 {
		t.Errorf("Apply = %v, %d", w, e)
	}
}

// 2.1: Apply does number by number what the chapter says.
func TestApplyOfRandomBinds(t *testing.T) {
	var d sample.Dice
	for range 3000 {
		l, u := binds(&d, 12), d.Term(sample.Sign(), 30, api.MaxVars)
		want := sample.Put(l, u)
		w, e := unify.Apply(sample.Sign(), l, u)
		if len(want) > api.MaxSize && e != api.ErrLimit || len(want) <= api.MaxSize && (e != api.OK || !slices.Equal(w, want)) {
			t.Errorf("Apply(%v, %v) = %v, %d", l, u, w, e)
		}
	}
}

// 2.1
func TestCompose(t *testing.T) {
	n := func(v int) []api.Bind { return []api.Bind{{Var: v, To: api.Term{1, -v - 1}}} }
	swap := []api.Bind{{Var: 0, To: api.Term{-2}}, {Var: 1, To: api.Term{-1}}}
	tests := []struct{ l, m, both []api.Bind }{
		{nil, nil, nil}, {n(3), nil, n(3)}, {nil, n(3), n(3)}, {n(0), n(11), append(n(0), n(11)...)}, {n(11), n(0), append(n(0), n(11)...)},
		{n(4), n(4), []api.Bind{{Var: 4, To: api.Term{1, 1, -5}}}}, {swap, swap, nil},
		{swap, n(0), []api.Bind{{Var: 0, To: api.Term{-2}}, {Var: 1, To: api.Term{1, -1}}}},
		{n(0), swap, []api.Bind{{Var: 0, To: api.Term{1, -2}}, {Var: 1, To: api.Term{-1}}}},
		{[]api.Bind{{Var: 0, To: api.Term{-2}}}, []api.Bind{{Var: 1, To: api.Term{-1}}}, []api.Bind{{Var: 1, To: api.Term{-1}}}},
		{[]api.Bind{{Var: 2, To: api.Term{2}}}, n(2), []api.Bind{{Var: 2, To: api.Term{2}}}},
	}
	for _, test := range tests {
		if both, e := unify.Compose(sample.Sign(), test.l, test.m); e != api.OK || !sameBinds(both, test.both) {
			t.Errorf("Compose(%v, %v) = %v, %d", test.l, test.m, both, e)
		}
	}
}

// 2.1: ErrLimit of Compose, also where no variable of a bind of m is too long.
func TestComposeLimit(t *testing.T) {
	l := []api.Bind{{Var: 3, To: api.Term{0, -1, -1}}}
	for size, want := range map[int]api.Errno{29: api.OK, 30: api.ErrLimit} {
		m := []api.Bind{{Var: 0, To: sample.Tower(size)}}
		if both, e := unify.Compose(sample.Sign(), l, m); e != want || e != api.OK && len(both) != 0 {
			t.Errorf("Compose with a tower of %d = %v, %d", size, both, e)
		}
	}
	long := append(slices.Repeat(api.Term{1}, 59), -1)
	if both, e := unify.Compose(sample.Sign(), nil, []api.Bind{{Var: 1, To: long}}); e != api.OK || len(both) != 1 {
		t.Errorf("Compose = %v, %d", both, e)
	}
}

// P2.2
func TestComposed(t *testing.T) {
	var d sample.Dice
	s := sample.Sign()
	done := 0
	for range 4000 {
		l, m, u := binds(&d, 4), binds(&d, 4), d.Term(s, 12, api.MaxVars)
		both, e := unify.Compose(s, l, m)
		if e != api.OK {
			t.Fatalf("Compose(%v, %v): %d", l, m, e)
		}
		w, e := unify.Apply(s, both, u)
		want := sample.Put(m, sample.Put(l, u))
		if !unify.ValidBinds(s, both) || len(want) <= api.MaxSize && !slices.Equal(w, want) || len(want) > api.MaxSize && e != api.ErrLimit {
			t.Errorf("Compose(%v, %v) = %v, and of %v: %v, %d", l, m, both, u, w, e)
		}
		if e == api.OK {
			done++
		}
	}
	if done < 1000 {
		t.Errorf("only %d terms were not too long", done)
	}
}

// P2.2: composing is associative.
func TestComposeIsAssociative(t *testing.T) {
	var d sample.Dice
	s := sample.Sign()
	for range 2000 {
		k, l, m := binds(&d, 3), binds(&d, 3), binds(&d, 3)
		kl, e1 := unify.Compose(s, k, l)
		left, e2 := unify.Compose(s, kl, m)
		lm, e3 := unify.Compose(s, l, m)
		right, e4 := unify.Compose(s, k, lm)
		if e1+e2+e3+e4 != api.OK || !sameBinds(left, right) {
			t.Fatalf("%v, %v and %v: %v or %v", k, l, m, left, right)
		}
	}
}

// 2.1
func TestSolved(t *testing.T) {
	tests := []struct {
		l      []api.Bind
		solved bool
	}{
		{nil, true}, {[]api.Bind{{Var: 0, To: api.Term{2}}}, true}, {[]api.Bind{{Var: 0, To: api.Term{0, -2, -3}}}, true}, {[]api.Bind{{Var: 0, To: api.Term{-2}}}, true},
		{[]api.Bind{{Var: 0, To: api.Term{-3}}, {Var: 1, To: api.Term{-3}}}, true}, {[]api.Bind{{Var: 0, To: api.Term{1, -1}}}, false},
		{[]api.Bind{{Var: 0, To: api.Term{-2}}, {Var: 1, To: api.Term{2}}}, false}, {[]api.Bind{{Var: 0, To: api.Term{2}}, {Var: 11, To: api.Term{0, 2, -1}}}, false},
		{[]api.Bind{{Var: 0, To: api.Term{-2}}, {Var: 1, To: api.Term{-1}}}, false},
	}
	for _, test := range tests {
		if unify.Solved(sample.Sign(), test.l) != test.solved {
			t.Errorf("Solved(%v) is not %v", test.l, test.solved)
		}
	}
}

// 2.1: binds are solved just if they change nothing that they have put in.
func TestSolvedTwice(t *testing.T) {
	for _, l := range smallBinds(3) {
		twice, e := unify.Compose(short(), l, l)
		if e != api.OK || unify.Solved(short(), l) != sameBinds(twice, l) {
			t.Errorf("Solved(%v), which twice are %v, %d", l, twice, e)
		}
	}
}

// cycle takes each of the first variables to the next one, and the last one
// back.
func cycle(length int) []api.Bind {
	l := []api.Bind{}
	for v := range length {
		l = append(l, api.Bind{Var: v, To: api.Term{-(v+1)%length - 1}})
	}
	return l
}

// 2.1
func TestRenaming(t *testing.T) {
	tests := []struct {
		l        []api.Bind
		renaming bool
	}{
		{nil, true}, {cycle(2), true}, {cycle(3), true}, {cycle(12), true}, {cycle(12)[1:], false}, {cycle(3)[:2], false},
		{[]api.Bind{{Var: 0, To: api.Term{-2}}}, false}, {[]api.Bind{{Var: 0, To: api.Term{2}}}, false}, {[]api.Bind{{Var: 11, To: api.Term{1, -12}}}, false},
		{[]api.Bind{{Var: 0, To: api.Term{-2}}, {Var: 1, To: api.Term{1, -1}}}, false},
		{[]api.Bind{{Var: 0, To: api.Term{-3}}, {Var: 1, To: api.Term{-3}}, {Var: 2, To: api.Term{-1}}}, false},
	}
	for _, test := range tests {
		if unify.Renaming(sample.Sign(), test.l) != test.renaming {
			t.Errorf("Renaming(%v) is not %v", test.l, test.renaming)
		}
	}
}

// 2.1: binds are a renaming just if some binds undo them.
func TestRenamingIsUndone(t *testing.T) {
	all := smallBinds(3)
	for _, l := range all {
		undone := false
		for _, m := range all {
			there, e := unify.Compose(short(), l, m)
			back, f := unify.Compose(short(), m, l)
			undone = undone || e == api.OK && f == api.OK && len(there) == 0 && len(back) == 0
		}
		if unify.Renaming(short(), l) != undone {
			t.Errorf("Renaming(%v) is not %v", l, undone)
		}
	}
}

// 2.1
func TestOccurs(t *testing.T) {
	u := api.Term{0, -1, 0, 2, -12}
	for v := range api.MaxVars {
		if occurs, e := unify.Occurs(sample.Sign(), v, u); e != api.OK || occurs != (v == 0 || v == 11) {
			t.Errorf("Occurs(%d) = %v, %d", v, occurs, e)
		}
	}
	for _, v := range []int{-1, 12, -1 << 63, 1<<63 - 1} {
		if occurs, e := unify.Occurs(sample.Sign(), v, u); e != api.ErrRange || occurs {
			t.Errorf("Occurs(%d) = %v, %d", v, occurs, e)
		}
		if occurs, e := unify.Occurs(sample.Sign(), v, api.Term{0}); e != api.ErrInvalid || occurs {
			t.Errorf("Occurs(%d) in no term = %v, %d", v, occurs, e)
		}
	}
}
