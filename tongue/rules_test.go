package tongue_test

import (
	"fmt"
	"slices"
	"testing"

	"lemmary/api"
	"lemmary/sample"
	"lemmary/tongue"
)

// input is what a call may use: signs, dictionaries from a to b and from b to c,
// and terms of a and b.
type input struct {
	a, b, c api.Sign
	d, e    []api.Way
	t, u    api.Term
	text    string
}

// right returns valid input, of which every report is true.
func right() input {
	s := sample.Sign()
	return input{a: s, b: s, c: s, d: sample.RightWays(), e: sample.RightWays(), t: api.Term{0, -1, 1, -2}, u: api.Term{0, -1, 1, -2}, text: "(x0 -> N(x1))"}
}

// calls has all functions that may return ErrInvalid. Their uses are the names
// of fields of input.
func calls() []sample.Call[input] {
	return []sample.Call[input]{
		sample.Of("Write", "at", func(x input) (any, api.Errno) { return tongue.Write(x.a, 2, x.t) }),
		sample.Of("Read", "a", func(x input) (any, api.Errno) { return tongue.Read(x.a, 2, x.text) }),
		sample.Of("Translate", "a", func(x input) (any, api.Errno) { return tongue.Translate(x.a, 2, 3, x.text) }),
		sample.Of("Carried", "abdt", func(x input) (any, api.Errno) { return tongue.Carried(x.a, x.b, x.d, x.t) }),
		sample.Of("Itself", "a", func(x input) (any, api.Errno) { return tongue.Itself(x.a) }),
		sample.Of("Inverse", "abd", func(x input) (any, api.Errno) { return tongue.Inverse(x.a, x.b, x.d) }),
		sample.Of("Composed", "abcde", func(x input) (any, api.Errno) { return tongue.Composed(x.a, x.b, x.c, x.d, x.e) }),
		sample.Of("Image", "abd", func(x input) (any, api.Errno) { return tongue.Image(x.a, x.b, x.d) }),
		sample.Of("Lacks", "abdu", func(x input) (any, api.Errno) { return tongue.Lacks(x.a, x.b, x.d, x.u) }),
		sample.Of("Fetched", "abdu", func(x input) (any, api.Errno) { return tongue.Fetched(x.a, x.b, x.d, x.u) }),
		sample.Of("First", "ab", func(x input) (any, api.Errno) { return tongue.First(x.a, x.b) }),
		sample.Of("Symmetric", "adt", func(x input) (any, api.Errno) { return tongue.Symmetric(x.a, x.d, x.t) }),
		sample.Of("Order", "ad", func(x input) (any, api.Errno) { return tongue.Order(x.a, x.d) }),
	}
}

// reports has all functions that only report whether something is valid.
func reports() []sample.Call[input] {
	return []sample.Call[input]{
		sample.Plain("Valid", "abd", func(x input) any { return tongue.Valid(x.a, x.b, x.d) }),
		sample.Plain("OneToOne", "abd", func(x input) any { return tongue.OneToOne(x.a, x.b, x.d) }),
	}
}

// others has the functions that take any ways, and texts of them.
func others() []sample.Call[input] {
	return []sample.Call[input]{
		sample.Plain("Same", "de", func(x input) any { return tongue.Same(x.d, x.e) }),
		sample.Plain("Format", "d", func(x input) any { return tongue.Format(x.d) }),
		sample.Of("Parse", "", func(x input) (any, api.Errno) { return tongue.Parse(tongue.Format(x.d)) }),
	}
}

// wrongInputs returns inputs of which one field that a call uses is wrong.
func wrongInputs(uses string) []input {
	wrong := []input{}
	add := func(change func(x *input)) {
		x := right()
		change(&x)
		wrong = append(wrong, x)
	}
	for _, use := range uses {
		for _, s := range sample.WrongSigns() {
			switch use {
			case 'a':
				add(func(x *input) { x.a, x.t = s, api.Term{-1} })
			case 'b':
				add(func(x *input) { x.b, x.u = s, api.Term{-1} })
			case 'c':
				add(func(x *input) { x.c = s })
			}
		}
		for _, d := range sample.WrongWays() {
			switch use {
			case 'd':
				add(func(x *input) { x.d = d })
			case 'e':
				add(func(x *input) { x.e = d })
			}
		}
		for _, u := range sample.WrongTerms() {
			switch use {
			case 't':
				add(func(x *input) { x.t = u })
			case 'u':
				add(func(x *input) { x.u = u })
			}
		}
	}
	return wrong
}

// R1, R3, P3.1: ErrInvalid of 3.1 to 3.3, and reports, which are false then.
func TestWrongArguments(t *testing.T) {
	sample.Refused(t, calls(), right(), wrongInputs, api.ErrInvalid)
	sample.Refused(t, reports(), right(), wrongInputs, api.OK)
}

// 3.1 to 3.3: errors that come behind ErrInvalid: a wrong term, and a
// dictionary that is not one to one, or a term that is not in its image.
func TestInvalidFirst(t *testing.T) {
	s := sample.Twins()
	d, _ := tongue.First(s, s)
	if _, e := tongue.Fetched(s, s, d, api.Term{0, 2, -1, -1}); e != api.ErrInvalid {
		t.Errorf("Fetched: %d", e)
	}
	if _, e := tongue.Fetched(s, s, d[:9], api.Term{2, -1, -1}); e != api.ErrInvalid {
		t.Errorf("Fetched: %d", e)
	}
	if _, e := tongue.First(s, api.Sign{{Name: "C", Arity: 3}}); e != api.ErrInvalid {
		t.Errorf("First: %d", e)
	}
	if _, e := tongue.Inverse(s[:9], s, d); e != api.ErrInvalid {
		t.Errorf("Inverse: %d", e)
	}
}

// inputs returns valid inputs of many kinds.
func inputs() []input {
	var dice sample.Dice
	all := []input{right()}
	for range 100 {
		for _, s := range full() {
			x := input{a: s, b: s, c: sample.Twins(), d: dice.Ways(s, s), e: dice.Ways(s, sample.Twins())}
			if dice.Roll(2) == 0 {
				x.d = dice.OneToOne(s)
			}
			if dice.Roll(4) == 0 {
				x.c, x.e = s, x.d
			}
			x.t, x.u = dice.Term(s, 20, 3), dice.Term(s, 20, 3)
			if dice.Roll(4) == 0 {
				x.t = api.Term{0, -1, -2}
			}
			x.text, _ = tongue.Write(s, 2, x.t)
			all = append(all, x)
		}
	}
	return all
}

// roomy copies input into memory with spare capacity that holds what no input
// of a test has.
func roomy(x input) input {
	for _, s := range []*api.Sign{&x.a, &x.b, &x.c} {
		*s = sample.Roomy(*s, api.Symbol{Name: "spare"})
	}
	x.d, x.e = roomyWays(x.d), roomyWays(x.e)
	x.t, x.u = sample.Roomy(x.t, 77), sample.Roomy(x.u, 77)
	return x
}

func roomyWays(d []api.Way) []api.Way {
	roomy := sample.Roomy(d, api.Way{To: 99})
	for i, way := range d {
		roomy[i].Args = sample.Roomy(way.Args, 77)
	}
	return roomy
}

// all tells everything that input holds, up to the capacities of its lists.
func all(x input) string {
	told := ""
	for _, s := range []api.Sign{x.a, x.b, x.c} {
		told += fmt.Sprint(s[:cap(s)])
	}
	for _, d := range [][]api.Way{x.d, x.e} {
		for _, way := range d[:cap(d)] {
			told += fmt.Sprint(way.To, way.Args[:cap(way.Args)])
		}
	}
	return told + fmt.Sprint(x.t[:cap(x.t)], x.u[:cap(x.u)])
}

// R4, R7, P3.1
func TestMemory(t *testing.T) {
	memory := sample.Memory[input]{Roomy: roomy, All: all, Text: fmt.Sprint}
	memory.Unshared(t, slices.Concat(calls(), reports(), others()), inputs())
}

// R4: nil and empty lists are equivalent.
func TestNilAndEmpty(t *testing.T) {
	s := api.Sign{{Name: "C", Arity: 2}, {Name: "T"}}
	for _, args := range [][]int{nil, {}} {
		d := []api.Way{{To: 0, Args: []int{0, 1}}, {To: 1, Args: args}}
		if !tongue.OneToOne(s, s, d) || tongue.Format(d) != "0:01 1:-" {
			t.Errorf("%v", d)
		}
		if n, e := tongue.Order(s, d); n != 1 || e != api.OK {
			t.Errorf("Order(%v) = %d, %d", d, n, e)
		}
	}
	for _, none := range []api.Term{nil, {}} {
		if text, e := tongue.Write(s, 1, none); e != api.ErrInvalid || text != "" {
			t.Errorf("Write = %q, %d", text, e)
		}
	}
}
