package find_test

import (
	"fmt"
	"slices"
	"testing"

	"lemmary/api"
	"lemmary/find"
	"lemmary/sample"
)

// input is what a call may use: a sign, a shelf, a term and a question, indexes
// of symbols, an index of a statement, and a list of such.
type input struct {
	s       api.Sign
	l       []api.Term
	t, q    api.Term
	symbols []int
	i       int
	b       []int
}

// right returns valid input, of which every report is true.
func right() input {
	return input{s: sample.Sign(), l: append(shelf(), api.Term{0, -1, -2}), t: api.Term{0, -1, 1, -2}, q: api.Term{0, -1, -1}, symbols: []int{0}, b: []int{0, 1, 3}}
}

// calls has all functions that return an error. Their uses are the names of
// fields of input.
func calls() []sample.Call[input] {
	all := []sample.Call[input]{
		sample.Of("Where", "stq", func(x input) (any, api.Errno) { return find.Where(x.s, x.t, x.q) }),
		sample.Of("With", "sl", func(x input) (any, api.Errno) { return find.With(x.s, x.l, x.symbols) }),
		sample.Of("Closeness", "stq", func(x input) (any, api.Errno) { return find.Closeness(x.s, x.t, x.q) }),
		sample.Of("Ranked", "slq", func(x input) (any, api.Errno) { return find.Ranked(x.s, x.l, x.q) }),
		sample.Of("Groups", "sl", func(x input) (any, api.Errno) { return find.Groups(x.s, x.l) }),
		sample.Of("Shapes", "sl", func(x input) (any, api.Errno) { return find.Shapes(x.s, x.l) }),
		sample.Of("Base", "sl", func(x input) (any, api.Errno) { return find.Base(x.s, x.l) }),
		sample.Of("Over", "sl", func(x input) (any, api.Errno) { return find.Over(x.s, x.l, x.i) }),
		sample.Of("Lattice", "sl", func(x input) (any, api.Errno) { return find.Lattice(x.s, x.l) }),
		sample.Of("Sorted", "sl", func(x input) (any, api.Errno) { return find.Sorted(x.s, x.l) }),
	}
	for _, search := range searches() {
		all = append(all, sample.Of(search.name, "slq", func(x input) (any, api.Errno) { return search.do(x.s, x.l, x.q) }))
	}
	return all
}

// reports has all functions that only report something.
func reports() []sample.Call[input] {
	return []sample.Call[input]{
		sample.Plain("Valid", "sl", func(x input) any { return find.Valid(x.s, x.l) }),
		sample.Plain("IsBase", "sl", func(x input) any { return find.IsBase(x.s, x.l, x.b) }),
	}
}

// wrongInputs returns inputs of which one field that a call uses is wrong.
func wrongInputs(uses string) []input {
	wrong := []input{}
	add := func(change func(x *input)) {
		x := right()
		change(&x)
		wrong = append(wrong, x)
	}
	for _, use := range uses {
		switch use {
		case 's':
			for _, s := range sample.WrongSigns() {
				v := api.Term{-1}
				add(func(x *input) { x.s = s })
				add(func(x *input) { x.s, x.l, x.t, x.q, x.b = s, []api.Term{v}, v, v, []int{0} })
			}
		case 'l':
			for _, l := range wrongShelves() {
				add(func(x *input) { x.l = l })
			}
		case 't', 'q':
			for _, u := range sample.WrongTerms() {
				add(func(x *input) { changeTerm(x, use, u) })
			}
		}
	}
	return wrong
}

func changeTerm(x *input, use rune, u api.Term) {
	if use == 't' {
		x.t = u
	} else {
		x.q = u
	}
}

// wrongShelves holds shelves that are not valid, all of which have a statement
// for each index of right input, if they have any.
func wrongShelves() [][]api.Term {
	l := right().l
	wrong := [][]api.Term{nil, {}, slices.Repeat(l, 16), slices.Repeat(l, 10000)}
	for _, u := range sample.WrongTerms() {
		for i := range l {
			other := slices.Clone(l)
			other[i] = u
			wrong = append(wrong, other)
		}
	}
	return wrong
}

// R1, R3, P5.1: ErrInvalid of 5.1 to 5.3, and the reports, which are false then.
func TestWrongArguments(t *testing.T) {
	sample.Refused(t, calls(), right(), wrongInputs, api.ErrInvalid)
	sample.Refused(t, reports(), right(), wrongInputs, api.OK)
}

// inputs returns valid inputs of many kinds.
func inputs() []input {
	var d sample.Dice
	all := []input{right()}
	shelves(200, 8, func(s api.Sign, l []api.Term, q api.Term) {
		x := input{s: s, l: l, t: l[0], q: q, i: d.Roll(len(l))}
		x.symbols = []int{d.Roll(len(s)), 0}[d.Roll(3):]
		for i := range l {
			if d.Roll(4) > 0 {
				x.b = append(x.b, i)
			}
		}
		all = append(all, x)
	})
	return all
}

// roomy copies input into memory with spare capacity that holds what no input
// of a test has.
func roomy(x input) input {
	x.s = sample.Roomy(x.s, api.Symbol{Name: "spare"})
	x.l = sample.RoomyTerms(x.l)
	x.t, x.q = sample.Roomy(x.t, 77), sample.Roomy(x.q, 77)
	x.symbols, x.b = sample.Roomy(x.symbols, 77), sample.Roomy(x.b, 77)
	return x
}

// all tells everything that input holds, up to the capacities of its lists.
func all(x input) string {
	told := fmt.Sprint(x.s[:cap(x.s)], x.t[:cap(x.t)], x.q[:cap(x.q)], x.symbols[:cap(x.symbols)], x.b[:cap(x.b)])
	for _, u := range x.l[:cap(x.l)] {
		told += fmt.Sprint(u[:cap(u)])
	}
	return told
}

// R4, R7, P5.1
func TestMemory(t *testing.T) {
	memory := sample.Memory[input]{Roomy: roomy, All: all, Text: fmt.Sprint}
	memory.Unshared(t, slices.Concat(calls(), reports()), inputs())
}

// P2: nothing changes if variables are called otherwise.
func TestNamesMeanNothing(t *testing.T) {
	var d sample.Dice
	for _, x := range inputs() {
		y := x
		y.t, y.q = renamed(&d, x.t), renamed(&d, x.q)
		y.l = slices.Clone(x.l)
		for i, u := range x.l {
			y.l[i] = renamed(&d, u)
		}
		for _, call := range slices.Concat(calls(), reports()) {
			sample.Same(t, call, x, y, fmt.Sprint)
		}
	}
}
