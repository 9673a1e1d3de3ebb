package tongue_test

import (
	"fmt"
	"reflect"
	"slices"
	"testing"

	"lemmary/api"
	"lemmary/sample"
	"lemmary/tongue"
)

// input is what a call may use: signs, dictionaries from a to b and from b to c,
// and terms of a and b.
type input struct {
	a, b, c api.Sign
	d, e    []api.Way
	t, u    api.Term
	text    string
}

// right returns valid input, of which every report is true.
func right() input {
	s := sample.Sign()
	return input{a: s, b: s, c: s, d: sample.RightWays(), e: sample.RightWays(), t: api.Term{0, -1, 1, -2}, u: api.Term{0, -1, 1, -2}, text: "(x0 -> N(x1))"}
}

// call is a function of the package. Its uses are the fields of the input that
// it takes.
type call struct {
	name, uses string
	do         func(x input) (any, api.Errno)
}

// calls has all functions that may return ErrInvalid.
func calls() []call {
	return []call{
		{"Write", "at", func(x input) (any, api.Errno) { return result(tongue.Write(x.a, 2, x.t)) }},
		{"Read", "a", func(x input) (any, api.Errno) { return result(tongue.Read(x.a, 2, x.text)) }},
		{"Translate", "a", func(x input) (any, api.Errno) { return result(tongue.Translate(x.a, 2, 3, x.text)) }},
		{"Carried", "abdt", func(x input) (any, api.Errno) { return result(tongue.Carried(x.a, x.b, x.d, x.t)) }},
		{"Itself", "a", func(x input) (any, api.Errno) { return result(tongue.Itself(x.a)) }},
		{"Inverse", "abd", func(x input) (any, api.Errno) { return result(tongue.Inverse(x.a, x.b, x.d)) }},
		{"Composed", "abcde", func(x input) (any, api.Errno) { return result(tongue.Composed(x.a, x.b, x.c, x.d, x.e)) }},
		{"Image", "abd", func(x input) (any, api.Errno) { return result(tongue.Image(x.a, x.b, x.d)) }},
		{"Lacks", "abdu", func(x input) (any, api.Errno) { return result(tongue.Lacks(x.a, x.b, x.d, x.u)) }},
		{"Fetched", "abdu", func(x input) (any, api.Errno) { return result(tongue.Fetched(x.a, x.b, x.d, x.u)) }},
		{"First", "ab", func(x input) (any, api.Errno) { return result(tongue.First(x.a, x.b)) }},
		{"Symmetric", "adt", func(x input) (any, api.Errno) { return result(tongue.Symmetric(x.a, x.d, x.t)) }},
		{"Order", "ad", func(x input) (any, api.Errno) { return result(tongue.Order(x.a, x.d)) }},
	}
}

// others has all other functions.
func others() []call {
	return []call{
		{"Valid", "abd", func(x input) (any, api.Errno) { return tongue.Valid(x.a, x.b, x.d), 0 }},
		{"OneToOne", "abd", func(x input) (any, api.Errno) { return tongue.OneToOne(x.a, x.b, x.d), 0 }},
		{"Same", "de", func(x input) (any, api.Errno) { return tongue.Same(x.d, x.e), 0 }},
		{"Format", "d", func(x input) (any, api.Errno) { return tongue.Format(x.d), 0 }},
		{"Parse", "", func(x input) (any, api.Errno) { return result(tongue.Parse(tongue.Format(x.d))) }},
	}
}

func result[T any](r T, e api.Errno) (any, api.Errno) {
	return r, e
}

// wrongInputs returns inputs of which one field that a call uses is wrong.
func wrongInputs(uses string) []input {
	wrong := []input{}
	add := func(change func(x *input)) {
		x := right()
		change(&x)
		wrong = append(wrong, x)
	}
	for _, use := range uses {
		for _, s := range sample.WrongSigns() {
			switch use {
			case 'a':
				add(func(x *input) { x.a, x.t = s, api.Term{-1} })
			case 'b':
				add(func(x *input) { x.b, x.u = s, api.Term{-1} })
			case 'c':
				add(func(x *input) { x.c = s })
			}
		}
		for _, d := range sample.WrongWays() {
			switch use {
			case 'd':
				add(func(x *input) { x.d = d })
			case 'e':
				add(func(x *input) { x.e = d })
			}
		}
		for _, u := range sample.WrongTerms() {
			switch use {
			case 't':
				add(func(x *input) { x.t = u })
			case 'u':
				add(func(x *input) { x.u = u })
			}
		}
	}
	return wrong
}

// empty tells whether a result is its zero value; a list may also be empty.
func empty(r any) bool {
	v := reflect.ValueOf(r)
	return v.IsZero() || v.Kind() == reflect.Slice && v.Len() == 0
}

// R1, R3, P3.1, and ErrInvalid of 3.1 to 3.3.
func TestWrongArguments(t *testing.T) {
	for _, c := range calls() {
		if r, e := c.do(right()); e != api.OK {
			t.Errorf("%s of right arguments: %v, %d", c.name, r, e)
		}
		for _, x := range wrongInputs(c.uses) {
			if r, e := c.do(x); e != api.ErrInvalid || !empty(r) {
				t.Errorf("%s of %v: %v, %d", c.name, x, r, e)
			}
		}
	}
}

// 3.2: reports of wrong arguments are false; Same and Format take any ways.
func TestReportsOfWrongArguments(t *testing.T) {
	for _, c := range others() {
		if r, e := c.do(right()); empty(r) || e != api.OK {
			t.Errorf("%s of right arguments: %v, %d", c.name, r, e)
		}
		for _, x := range wrongInputs(c.uses) {
			r, e := c.do(x)
			if report := c.name == "Valid" || c.name == "OneToOne"; report && !empty(r) || e != api.OK {
				t.Errorf("%s of %v: %v, %d", c.name, x, r, e)
			}
		}
	}
}

// 3.1 to 3.3: errors that come behind ErrInvalid: a wrong term, and a
// dictionary that is not one to one, or a term that is not in its image.
func TestInvalidFirst(t *testing.T) {
	s := sample.Twins()
	d, _ := tongue.First(s, s)
	if _, e := tongue.Fetched(s, s, d, api.Term{0, 2, -1, -1}); e != api.ErrInvalid {
		t.Errorf("Fetched: %d", e)
	}
	if _, e := tongue.Fetched(s, s, d[:9], api.Term{2, -1, -1}); e != api.ErrInvalid {
		t.Errorf("Fetched: %d", e)
	}
	if _, e := tongue.First(s, api.Sign{{Name: "C", Arity: 3}}); e != api.ErrInvalid {
		t.Errorf("First: %d", e)
	}
	if _, e := tongue.Inverse(s[:9], s, d); e != api.ErrInvalid {
		t.Errorf("Inverse: %d", e)
	}
}

// inputs returns valid inputs of many kinds.
func inputs() []input {
	var dice sample.Dice
	all := []input{right()}
	for range 100 {
		for _, s := range full() {
			x := input{a: s, b: s, c: sample.Twins(), d: dice.Ways(s, s), e: dice.Ways(s, sample.Twins())}
			if dice.Roll(2) == 0 {
				x.d = dice.OneToOne(s)
			}
			if dice.Roll(4) == 0 {
				x.c, x.e = s, x.d
			}
			x.t, x.u = dice.Term(s, 20, 3), dice.Term(s, 20, 3)
			if dice.Roll(4) == 0 {
				x.t = api.Term{0, -1, -2}
			}
			x.text, _ = tongue.Write(s, 2, x.t)
			all = append(all, x)
		}
	}
	return all
}

// roomy copies input into memory with spare capacity that holds what no input
// of a test has.
func roomy(x input) input {
	x.a, x.b, x.c = roomySign(x.a), roomySign(x.b), roomySign(x.c)
	x.d, x.e = roomyWays(x.d), roomyWays(x.e)
	x.t, x.u = roomyList(x.t), roomyList(x.u)
	return x
}

func roomySign(s api.Sign) api.Sign {
	return append(slices.Clone(s), api.Symbol{Name: "spare"})[:len(s)]
}

func roomyList(list []int) []int {
	return append(slices.Clone(list), 77, 77, 77)[:len(list)]
}

func roomyWays(d []api.Way) []api.Way {
	roomy := make([]api.Way, len(d)+1)
	for i, way := range d {
		roomy[i] = api.Way{To: way.To, Args: roomyList(way.Args)}
	}
	roomy[len(d)] = api.Way{To: 99}
	return roomy[:len(d)]
}

// all tells everything that input holds, up to the capacities of its lists.
func all(x input) string {
	told := ""
	for _, s := range []api.Sign{x.a, x.b, x.c} {
		told += fmt.Sprint(s[:cap(s)])
	}
	for _, d := range [][]api.Way{x.d, x.e} {
		for _, way := range d[:cap(d)] {
			told += fmt.Sprint(way.To, way.Args[:cap(way.Args)])
		}
	}
	return told + fmt.Sprint(x.t[:cap(x.t)], x.u[:cap(x.u)])
}

// overwritten overwrites all lists of a result, up to their capacities, and
// fails if that changes another one.
func overwritten(t *testing.T, name string, r any) {
	lists := [][]int{}
	switch x := r.(type) {
	case api.Term:
		lists = append(lists, x)
	case []int:
		lists = append(lists, x)
	case []api.Way:
		for _, way := range x {
			lists = append(lists, way.Args)
		}
	}
	for i, list := range lists {
		kept := fmt.Sprint(lists[i+1:])
		for k := range list[:cap(list)] {
			list[:cap(list)][k] = 55
		}
		if fmt.Sprint(lists[i+1:]) != kept {
			t.Errorf("%s: two lists share memory", name)
		}
	}
}

// R4, R7, P3.1: arguments stay as they are, also in their spare capacity;
// whoever overwrites a result changes no argument and no later result.
func TestMemory(t *testing.T) {
	for _, c := range append(calls(), others()...) {
		some := 0
		for _, plain := range inputs() {
			x := roomy(plain)
			before := all(x)
			r, e := c.do(x)
			told := fmt.Sprint(r, e)
			if all(x) != before {
				t.Errorf("%s changes its arguments %v", c.name, plain)
			}
			overwritten(t, c.name, r)
			if all(x) != before {
				t.Errorf("%s of %v: the result shares memory with an argument", c.name, plain)
			}
			if again, f := c.do(x); fmt.Sprint(again, f) != told {
				t.Errorf("%s of %v: first %s, then %v", c.name, plain, told, again)
			}
			if !empty(r) {
				some++
			}
		}
		if some < 10 {
			t.Errorf("%s has only %d results", c.name, some)
		}
	}
}

// R4: nil and empty lists are equivalent.
func TestNilAndEmpty(t *testing.T) {
	s := api.Sign{{Name: "C", Arity: 2}, {Name: "T"}}
	for _, args := range [][]int{nil, {}} {
		d := []api.Way{{To: 0, Args: []int{0, 1}}, {To: 1, Args: args}}
		if !tongue.OneToOne(s, s, d) || tongue.Format(d) != "0:01 1:-" {
			t.Errorf("%v", d)
		}
		if n, e := tongue.Order(s, d); n != 1 || e != api.OK {
			t.Errorf("Order(%v) = %d, %d", d, n, e)
		}
	}
	for _, none := range []api.Term{nil, {}} {
		if text, e := tongue.Write(s, 1, none); e != api.ErrInvalid || text != "" {
			t.Errorf("Write = %q, %d", text, e)
		}
	}
}
