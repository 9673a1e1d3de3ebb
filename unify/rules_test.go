package unify_test

import (
	"fmt"
	"reflect"
	"slices"
	"testing"

	"lemmary/api"
	"lemmary/sample"
	"lemmary/unify"
)

// input is what a call may use.
type input struct {
	s    api.Sign
	l, m []api.Bind
	a, b api.Term
	list []api.Term
	v    int
}

// right returns valid input, of which every report is true.
func right() input {
	return input{s: sample.Sign(), l: []api.Bind{}, m: []api.Bind{}, a: api.Term{0, -1, 1, -2}, b: api.Term{0, -1, 1, -2}, list: []api.Term{{-1}, {1, -2}}, v: 0}
}

// call is a function of the package. Its uses are the fields of the input that
// it takes, beside the sign.
type call struct {
	name, uses string
	do         func(x input) (any, api.Errno)
}

func calls() []call {
	return []call{
		{"Apply", "la", func(x input) (any, api.Errno) { return result(unify.Apply(x.s, x.l, x.a)) }},
		{"Compose", "lm", func(x input) (any, api.Errno) { return result(unify.Compose(x.s, x.l, x.m)) }},
		{"Match", "ab", func(x input) (any, api.Errno) { return result(unify.Match(x.s, x.a, x.b)) }},
		{"Unify", "ab", func(x input) (any, api.Errno) { return result(unify.Unify(x.s, x.a, x.b)) }},
		{"Unified", "ab", func(x input) (any, api.Errno) { return result(unify.Unified(x.s, x.a, x.b)) }},
		{"Meet", "ab", func(x input) (any, api.Errno) { return result(unify.Meet(x.s, x.a, x.b)) }},
		{"Join", "ab", func(x input) (any, api.Errno) { return result(unify.Join(x.s, x.a, x.b)) }},
		{"MeetAll", "i", func(x input) (any, api.Errno) { return result(unify.MeetAll(x.s, x.list)) }},
		{"JoinAll", "i", func(x input) (any, api.Errno) { return result(unify.JoinAll(x.s, x.list)) }},
		{"Occurs", "a", func(x input) (any, api.Errno) { return result(unify.Occurs(x.s, x.v, x.a)) }},
	}
}

func result[T any](r T, e api.Errno) (any, api.Errno) {
	return r, e
}

// reports has all functions that only report something.
func reports() []call {
	report := func(r bool) (any, api.Errno) { return r, 0 }
	return []call{
		{"ValidBinds", "l", func(x input) (any, api.Errno) { return report(unify.ValidBinds(x.s, x.l)) }},
		{"Instance", "ab", func(x input) (any, api.Errno) { return report(unify.Instance(x.s, x.a, x.b)) }},
		{"Unifies", "lab", func(x input) (any, api.Errno) { return report(unify.Unifies(x.s, x.l, x.a, x.b)) }},
		{"Unifiable", "ab", func(x input) (any, api.Errno) { return report(unify.Unifiable(x.s, x.a, x.b)) }},
		{"Meets", "ab", func(x input) (any, api.Errno) { return report(unify.Meets(x.s, x.a, x.b)) }},
		{"Solved", "l", func(x input) (any, api.Errno) { return report(unify.Solved(x.s, x.l)) }},
		{"Renaming", "l", func(x input) (any, api.Errno) { return report(unify.Renaming(x.s, x.l)) }},
	}
}

// wrongInputs returns inputs of which one field that a call uses, or the sign,
// is wrong.
func wrongInputs(uses string) []input {
	wrong := []input{}
	add := func(change func(x *input)) {
		x := right()
		change(&x)
		wrong = append(wrong, x)
	}
	for _, s := range sample.WrongSigns() {
		add(func(x *input) { x.s, x.a, x.b, x.list = s, api.Term{-1}, api.Term{-1}, []api.Term{{-1}} })
		add(func(x *input) { x.s = s })
	}
	for _, use := range uses {
		for _, u := range sample.WrongTerms() {
			switch use {
			case 'a':
				add(func(x *input) { x.a = u })
				add(func(x *input) { x.a, x.v = u, -1 })
			case 'b':
				add(func(x *input) { x.b = u })
			case 'i':
				add(func(x *input) { x.list = []api.Term{{-1}, u} })
				add(func(x *input) { x.list = []api.Term{u, {-1}} })
			}
		}
		for _, l := range wrongBinds() {
			switch use {
			case 'l':
				add(func(x *input) { x.l = l })
			case 'm':
				add(func(x *input) { x.m = l })
			}
		}
	}
	return wrong
}

// empty tells whether a result is its zero value; a list may also be empty.
func empty(r any) bool {
	v := reflect.ValueOf(r)
	return v.IsZero() || v.Kind() == reflect.Slice && v.Len() == 0
}

// R1, R3, P2.1, and ErrInvalid of 2.1 to 2.4.
func TestWrongArguments(t *testing.T) {
	for _, c := range calls() {
		if r, e := c.do(right()); e != api.OK {
			t.Errorf("%s of right arguments: %v, %d", c.name, r, e)
		}
		for _, x := range wrongInputs(c.uses) {
			if r, e := c.do(x); e != api.ErrInvalid || !empty(r) {
				t.Errorf("%s of %v: %v, %d", c.name, x, r, e)
			}
		}
	}
}

// 2.1 to 2.4: false for wrong arguments.
func TestReportsOfWrongArguments(t *testing.T) {
	for _, c := range reports() {
		if r, _ := c.do(right()); r != true {
			t.Errorf("%s of right arguments: %v", c.name, r)
		}
		for _, x := range wrongInputs(c.uses) {
			if r, _ := c.do(x); r != false {
				t.Errorf("%s of %v: %v", c.name, x, r)
			}
		}
	}
}

// inputs returns valid inputs of many kinds.
func inputs() []input {
	var d sample.Dice
	s := sample.Sign()
	all := []input{right()}
	for range 300 {
		x := input{s: s, l: binds(&d, 4), m: binds(&d, 4), a: d.Term(s, 1+d.Roll(20), 6), b: d.Term(s, 1+d.Roll(20), 6), v: d.Roll(12)}
		if d.Roll(2) == 0 {
			x.b = put(x.m, x.a)
		}
		if len(x.b) > api.MaxSize {
			x.b = x.a
		}
		if d.Roll(4) == 0 {
			x.l = cycle(2 + d.Roll(11))
		}
		x.list = []api.Term{slices.Clone(x.a), slices.Clone(x.b), {-1}}[d.Roll(3):]
		all = append(all, x)
	}
	return all
}

// roomy copies input into memory with spare capacity that holds what no input
// of a test has.
func roomy(x input) input {
	x.s = append(slices.Clone(x.s), api.Symbol{Name: "spare"})[:len(x.s)]
	x.l, x.m = roomyBinds(x.l), roomyBinds(x.m)
	x.a, x.b = roomyTerm(x.a), roomyTerm(x.b)
	list := make([]api.Term, len(x.list)+1)
	for i, u := range x.list {
		list[i] = roomyTerm(u)
	}
	list[len(x.list)] = api.Term{99}
	x.list = list[:len(x.list)]
	return x
}

func roomyTerm(t api.Term) api.Term {
	return append(slices.Clone(t), 77, 77, 77)[:len(t)]
}

func roomyBinds(l []api.Bind) []api.Bind {
	roomy := make([]api.Bind, len(l)+1)
	for i, bind := range l {
		roomy[i] = api.Bind{Var: bind.Var, To: roomyTerm(bind.To)}
	}
	roomy[len(l)] = api.Bind{Var: 99}
	return roomy[:len(l)]
}

// all tells everything that input holds, up to the capacities of its lists.
func all(x input) string {
	told := fmt.Sprint(x.s[:cap(x.s)], x.a[:cap(x.a)], x.b[:cap(x.b)])
	for _, l := range [][]api.Bind{x.l, x.m} {
		for _, bind := range l[:cap(l)] {
			told += fmt.Sprint(bind.Var, bind.To[:cap(bind.To)])
		}
	}
	for _, u := range x.list[:cap(x.list)] {
		told += fmt.Sprint(u[:cap(u)])
	}
	return told
}

// overwritten overwrites all lists of a result, up to their capacities, and
// fails if that changes another one.
func overwritten(t *testing.T, name string, r any) {
	terms := []api.Term{}
	switch x := r.(type) {
	case api.Term:
		terms = append(terms, x)
	case []api.Bind:
		for _, bind := range x {
			terms = append(terms, bind.To)
		}
	}
	for i, u := range terms {
		kept := fmt.Sprint(terms[i+1:])
		for k := range u[:cap(u)] {
			u[:cap(u)][k] = 55
		}
		if fmt.Sprint(terms[i+1:]) != kept {
			t.Errorf("%s: two terms share memory", name)
		}
	}
}

// R4, R7, P2.1: arguments stay as they are, also in their spare capacity;
// whoever overwrites a result changes no argument and no later result.
func TestMemory(t *testing.T) {
	for _, c := range append(calls(), reports()...) {
		some := 0
		for _, plain := range inputs() {
			x := roomy(plain)
			before := all(x)
			r, e := c.do(x)
			told := fmt.Sprint(r, e)
			if all(x) != before {
				t.Errorf("%s changes its arguments %v", c.name, plain)
			}
			overwritten(t, c.name, r)
			if all(x) != before {
				t.Errorf("%s of %v: the result shares memory with an argument", c.name, plain)
			}
			if again, f := c.do(x); fmt.Sprint(again, f) != told {
				t.Errorf("%s of %v: first %s, then %v", c.name, plain, told, again)
			}
			if !empty(r) {
				some++
			}
		}
		if some < 10 {
			t.Errorf("%s has only %d results", c.name, some)
		}
	}
}

// R4: nil and empty lists are equivalent.
func TestNilAndEmpty(t *testing.T) {
	s, u, none := sample.Sign(), api.Term{0, -1, -2}, []api.Bind{}
	if !unify.ValidBinds(s, nil) || !unify.ValidBinds(s, none) || !unify.Unifies(s, nil, u, u) || !unify.Unifies(s, none, u, u) || !unify.Solved(s, none) || !unify.Renaming(s, none) {
		t.Error("no binds")
	}
	for _, l := range [][]api.Bind{nil, none} {
		if w, e := unify.Apply(s, l, u); e != api.OK || !slices.Equal(w, u) {
			t.Errorf("Apply = %v, %d", w, e)
		}
		if m, e := unify.Compose(s, l, l); e != api.OK || len(m) != 0 {
			t.Errorf("Compose = %v, %d", m, e)
		}
	}
	if w, e := unify.MeetAll(s, []api.Term{}); e != api.ErrRange || len(w) != 0 {
		t.Errorf("MeetAll = %v, %d", w, e)
	}
}
