package unify_test

import (
	"fmt"
	"slices"
	"testing"

	"lemmary/api"
	"lemmary/sample"
	"lemmary/unify"
)

// input is what a call may use.
type input struct {
	s    api.Sign
	l, m []api.Bind
	a, b api.Term
	list []api.Term
	v    int
}

// right returns valid input, of which every report is true.
func right() input {
	return input{s: sample.Sign(), l: []api.Bind{}, m: []api.Bind{}, a: api.Term{0, -1, 1, -2}, b: api.Term{0, -1, 1, -2}, list: []api.Term{{-1}, {1, -2}}, v: 0}
}

// calls has all functions that return an error. Their uses are the names of
// fields of input, but that of the sign, and i for the list.
func calls() []sample.Call[input] {
	return []sample.Call[input]{
		sample.Of("Apply", "la", func(x input) (any, api.Errno) { return unify.Apply(x.s, x.l, x.a) }),
		sample.Of("Compose", "lm", func(x input) (any, api.Errno) { return unify.Compose(x.s, x.l, x.m) }),
		sample.Of("Match", "ab", func(x input) (any, api.Errno) { return unify.Match(x.s, x.a, x.b) }),
		sample.Of("Unify", "ab", func(x input) (any, api.Errno) { return unify.Unify(x.s, x.a, x.b) }),
		sample.Of("Unified", "ab", func(x input) (any, api.Errno) { return unify.Unified(x.s, x.a, x.b) }),
		sample.Of("Meet", "ab", func(x input) (any, api.Errno) { return unify.Meet(x.s, x.a, x.b) }),
		sample.Of("Join", "ab", func(x input) (any, api.Errno) { return unify.Join(x.s, x.a, x.b) }),
		sample.Of("MeetAll", "i", func(x input) (any, api.Errno) { return unify.MeetAll(x.s, x.list) }),
		sample.Of("JoinAll", "i", func(x input) (any, api.Errno) { return unify.JoinAll(x.s, x.list) }),
		sample.Of("Occurs", "a", func(x input) (any, api.Errno) { return unify.Occurs(x.s, x.v, x.a) }),
	}
}

// reports has all functions that only report something.
func reports() []sample.Call[input] {
	return []sample.Call[input]{
		sample.Plain("ValidBinds", "l", func(x input) any { return unify.ValidBinds(x.s, x.l) }),
		sample.Plain("Instance", "ab", func(x input) any { return unify.Instance(x.s, x.a, x.b) }),
		sample.Plain("Unifies", "lab", func(x input) any { return unify.Unifies(x.s, x.l, x.a, x.b) }),
		sample.Plain("Unifiable", "ab", func(x input) any { return unify.Unifiable(x.s, x.a, x.b) }),
		sample.Plain("Meets", "ab", func(x input) any { return unify.Meets(x.s, x.a, x.b) }),
		sample.Plain("Solved", "l", func(x input) any { return unify.Solved(x.s, x.l) }),
		sample.Plain("Renaming", "l", func(x input) any { return unify.Renaming(x.s, x.l) }),
	}
}

// wrongInputs returns inputs of which one field that a call uses, or the sign,
// is wrong.
func wrongInputs(uses string) []input {
	wrong := []input{}
	add := func(change func(x *input)) {
		x := right()
		change(&x)
		wrong = append(wrong, x)
	}
	for _, s := range sample.WrongSigns() {
		add(func(x *input) { x.s, x.a, x.b, x.list = s, api.Term{-1}, api.Term{-1}, []api.Term{{-1}} })
		add(func(x *input) { x.s = s })
	}
	for _, use := range uses {
		for _, u := range sample.WrongTerms() {
			switch use {
			case 'a':
				add(func(x *input) { x.a = u })
				add(func(x *input) { x.a, x.v = u, -1 })
			case 'b':
				add(func(x *input) { x.b = u })
			case 'i':
				add(func(x *input) { x.list = []api.Term{{-1}, u} })
				add(func(x *input) { x.list = []api.Term{u, {-1}} })
			}
		}
		for _, l := range wrongBinds() {
			switch use {
			case 'l':
				add(func(x *input) { x.l = l })
			case 'm':
				add(func(x *input) { x.m = l })
			}
		}
	}
	return wrong
}

// R1, R3, P2.1: ErrInvalid of 2.1 to 2.4, and reports, which are false then.
func TestWrongArguments(t *testing.T) {
	sample.Refused(t, calls(), right(), wrongInputs, api.ErrInvalid)
	sample.Refused(t, reports(), right(), wrongInputs, api.OK)
}

// inputs returns valid inputs of many kinds.
func inputs() []input {
	var d sample.Dice
	s := sample.Sign()
	all := []input{right()}
	for range 300 {
		x := input{s: s, l: binds(&d, 4), m: binds(&d, 4), a: d.Term(s, 1+d.Roll(20), 6), b: d.Term(s, 1+d.Roll(20), 6), v: d.Roll(12)}
		if d.Roll(2) == 0 {
			x.b = sample.Put(x.m, x.a)
		}
		if len(x.b) > api.MaxSize {
			x.b = x.a
		}
		if d.Roll(4) == 0 {
			x.l = cycle(2 + d.Roll(11))
		}
		x.list = []api.Term{slices.Clone(x.a), slices.Clone(x.b), {-1}}[d.Roll(3):]
		all = append(all, x)
	}
	return all
}

// roomy copies input into memory with spare capacity that holds what no input
// of a test has.
func roomy(x input) input {
	x.s = sample.Roomy(x.s, api.Symbol{Name: "spare"})
	x.l, x.m = roomyBinds(x.l), roomyBinds(x.m)
	x.a, x.b = sample.Roomy(x.a, 77), sample.Roomy(x.b, 77)
	x.list = sample.RoomyTerms(x.list)
	return x
}

func roomyBinds(l []api.Bind) []api.Bind {
	roomy := sample.Roomy(l, api.Bind{Var: 99})
	for i, bind := range l {
		roomy[i].To = sample.Roomy(bind.To, 77)
	}
	return roomy
}

// all tells everything that input holds, up to the capacities of its lists.
func all(x input) string {
	told := fmt.Sprint(x.s[:cap(x.s)], x.a[:cap(x.a)], x.b[:cap(x.b)])
	for _, l := range [][]api.Bind{x.l, x.m} {
		for _, bind := range l[:cap(l)] {
			told += fmt.Sprint(bind.Var, bind.To[:cap(bind.To)])
		}
	}
	for _, u := range x.list[:cap(x.list)] {
		told += fmt.Sprint(u[:cap(u)])
	}
	return told
}

// R4, R7, P2.1
func TestMemory(t *testing.T) {
	memory := sample.Memory[input]{Roomy: roomy, All: all, Text: fmt.Sprint}
	memory.Unshared(t, slices.Concat(calls(), reports()), inputs())
}

// R4: nil and empty lists are equivalent.
func TestNilAndEmpty(t *testing.T) {
	s, u, none := sample.Sign(), api.Term{0, -1, -2}, []api.Bind{}
	if !unify.ValidBinds(s, nil) || !unify.ValidBinds(s, none) || !unify.Unifies(s, nil, u, u) || !unify.Unifies(s, none, u, u) || !unify.Solved(s, none) || !unify.Renaming(s, none) {
		t.Error("no binds")
	}
	for _, l := range [][]api.Bind{nil, none} {
		if w, e := unify.Apply(s, l, u); e != api.OK || !slices.Equal(w, u) {
			t.Errorf("Apply = %v, %d", w, e)
		}
		if m, e := unify.Compose(s, l, l); e != api.OK || len(m) != 0 {
			t.Errorf("Compose = %v, %d", m, e)
		}
	}
	if w, e := unify.MeetAll(s, []api.Term{}); e != api.ErrRange || len(w) != 0 {
		t.Errorf("MeetAll = %v, %d", w, e)
	}
}
