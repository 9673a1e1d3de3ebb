package house_test

import (
	"fmt"
	"math"
	"slices"
	"strings"
	"testing"

	"lemmary/api"
	"lemmary/house"
	"lemmary/sample"
)

// input is what a call may use: a sign, a house of it, a command that can be done
// there, a term, a text and the bytes of a book.
type input struct {
	s    api.Sign
	h    *house.House
	a    act
	t    api.Term
	text string
	b    []byte
}

// right returns valid input.
func right() input {
	h, _ := house.New(sample.Sign())
	house.Do(h, logic)
	return input{s: sample.Sign(), h: h, a: acted("prove a ann (x0->x0) s,k DDg00g01g01"), t: sample.K(), text: "(x0->x0)", b: h.Bytes()}
}

// parts returns all that a house tells of itself.
func parts(h *house.House, e api.Errno) (any, api.Errno) {
	return []any{h.Sign(), h.Entries(), h.Changes(), h.Lines(), h.Bytes(), h != nil}, e
}

// calls has all functions that make a house, or that return an error and no
// house. Their uses are the first letters of fields of input.
func calls() []sample.Call[input] {
	return []sample.Call[input]{
		sample.Of("New", "s", func(x input) (any, api.Errno) { return parts(house.New(x.s)) }),
		sample.Of("Read", "s", func(x input) (any, api.Errno) { return parts(house.Read(x.s, x.b)) }),
		sample.Of("Plain", "st", func(x input) (any, api.Errno) { return house.Plain(x.s, x.t) }),
		sample.Of("Unplain", "s", func(x input) (any, api.Errno) { return house.Unplain(x.s, x.text) }),
	}
}

// tellings has all methods that tell something of a house.
func tellings() []sample.Call[input] {
	return []sample.Call[input]{
		sample.Plain("Sign", "", func(x input) any { return x.h.Sign() }),
		sample.Plain("Entries", "", func(x input) any { return x.h.Entries() }),
		sample.Plain("Changes", "", func(x input) any { return x.h.Changes() }),
		sample.Plain("Lines", "", func(x input) any { return x.h.Lines() }),
		sample.Plain("Bytes", "", func(x input) any { return x.h.Bytes() }),
		sample.Plain("all", "", func(x input) any { all, _ := parts(x.h, api.OK); return all }),
		sample.Of("the same house", "", func(x input) (any, api.Errno) { return house.Same(x.h, x.h), api.OK }),
		sample.Plain("Do", "", func(x input) any { return house.Do(x.h, "count\nsays i\nfind x0\nblame k\n") }),
	}
}

// wrongInputs returns inputs of which one field that a call uses is wrong.
func wrongInputs(uses string) []input {
	return sample.Changed(uses, right, func(use rune) []func(x *input) {
		list := []func(x *input){}
		switch use {
		case 's':
			for _, s := range sample.WrongSigns() {
				list = append(list, func(x *input) { x.s = s }, func(x *input) { x.s, x.t, x.text, x.b = s, api.Term{-1}, "x0", nil })
			}
		case 't':
			for _, u := range sample.WrongTerms() {
				list = append(list, func(x *input) { x.t = u })
			}
		}
		return list
	})
}

// R1, R3, P10.1: ErrInvalid of 10.1 and 10.4.
func TestWrongArguments(t *testing.T) {
	sample.Refused(t, calls(), right(), wrongInputs, api.ErrInvalid)
	for _, s := range sample.WrongSigns() {
		if u, e := house.Unplain(s, strings.Repeat("x", 65537)); len(u) > 0 || e != api.ErrInvalid {
			t.Errorf("Unplain = %v, %d", u, e)
		}
	}
}

// R1, P10.1: the methods of no house, and of one that New has not made.
func TestNoHouse(t *testing.T) {
	var none *house.House
	for _, a := range append(wrongActs(), right().a, acted("axiom a ann T"), acted("set i ann (x0->x0) s,k DDg00g01g01"), acted("rename k l ann"), acted("drop i ann"), acted("shorten i ann")) {
		if e := a.in(none); e != api.ErrInvalid {
			t.Errorf("%v in no house: %d", a, e)
		}
		if a.in(&house.House{}) == api.OK {
			t.Errorf("%v in an empty house", a)
		}
	}
	sample.Refused(t, tellings()[:7], right(), func(string) []input { return []input{{}, {h: none}} }, api.OK)
	empty := &house.House{}
	if got := house.Do(empty, logic+"count\nfind x0\nsays i\nsound\n"); got != "error 14\nerror 14\nerror 14\n0\nerror 14\nerror 5\nyes\n" {
		t.Errorf("Do = %q", got)
	}
	if told(empty) != told(none) || house.Same(empty, none) || house.Same(none, right().h) {
		t.Errorf("the empty house is %s", told(empty))
	}
}

// R1: terms with any numbers.
func TestAnyTerms(t *testing.T) {
	h := right().h
	before := told(h)
	numbers := []int{math.MinInt, -100, -13, -1, 0, 1, 2, 3, 4, 100, math.MaxInt}
	sample.Lists(numbers, 3, func(u api.Term) {
		if sample.IsTerm(sample.Sign(), u) {
			return
		}
		text, e := house.Plain(sample.Sign(), u)
		axiom := h.Axiom("a", "ann", u)
		prove := h.Prove("a", "ann", u, []string{"i"}, "g00")
		set := h.Set("i", "ann", u, []string{"k"}, "g00")
		if text != "" || e != api.ErrInvalid || axiom != e || prove != e || set != e {
			t.Errorf("of %v: %q, %d; %d, %d, %d", u, text, e, axiom, prove, set)
		}
	})
	if told(h) != before {
		t.Errorf("the house has become %s", told(h))
	}
}

// inputs returns valid inputs of many kinds.
func inputs(t *testing.T) []input {
	var d sample.Dice
	all := []input{right()}
	for i := range 40 {
		x := right()
		x.h = dealtHouse(t, &d, 30)
		x.b = x.h.Bytes()
		x.s = sample.Sign()
		x.t = d.Term(x.s, 1+i, 4)
		x.text, _ = house.Plain(x.s, x.t)
		all = append(all, x)
	}
	return all
}

// R4, R7, P10.1: calls do not change their arguments, and results are new memory:
// who overwrites them does not change the house.
func TestMemory(t *testing.T) {
	memory := sample.Memory[input]{
		Roomy: func(x input) input {
			x.s, x.t, x.b = sample.Roomy(x.s, api.Symbol{Name: "spare"}), sample.Roomy(x.t, 77), sample.Roomy(x.b, 77)
			return x
		},
		All: func(x input) string {
			return fmt.Sprint(x.s[:cap(x.s)], x.t[:cap(x.t)], x.b[:cap(x.b)], told(x.h))
		},
		Text: fmt.Sprint,
	}
	memory.Unshared(t, slices.Concat(calls(), tellings()), inputs(t))
}

// R4, P10.1: commands do not change their arguments, and a house keeps nothing of
// them.
func TestKept(t *testing.T) {
	var d sample.Dice
	s := sample.Roomy(sample.Sign(), api.Symbol{Name: "spare"})
	h, e := house.New(s)
	if e != api.OK {
		t.Fatalf("New: %d", e)
	}
	clear(s[:cap(s)])
	done := map[string]int{}
	for range 3000 {
		a := dealt(&d, h.Entries())
		a.says, a.uses = sample.Roomy(a.says, 77), sample.Roomy(a.uses, "spare")
		before := fmt.Sprint(a, a.says[:cap(a.says)], a.uses[:cap(a.uses)])
		e := a.in(h)
		if fmt.Sprint(a, a.says[:cap(a.says)], a.uses[:cap(a.uses)]) != before {
			t.Fatalf("%s has become %v", before, a)
		}
		if e != api.OK {
			continue
		}
		done[a.word]++
		house := told(h)
		clear(a.says[:cap(a.says)])
		clear(a.uses[:cap(a.uses)])
		if told(h) != house {
			t.Fatalf("with %s the house %s has become %s", before, house, told(h))
		}
		if len(h.Lines()) == 300 {
			break
		}
	}
	if len(done) != 6 {
		t.Errorf("%v", done)
	}
	b := sample.Roomy(h.Bytes(), 'x')
	before := told(h)
	back, e := house.Read(sample.Sign(), b)
	clear(b[:cap(b)])
	if e != api.OK || told(back) != before {
		t.Errorf("Read: %d", e)
	}
}

// R4: nil and empty lists are equivalent.
func TestNilAndEmpty(t *testing.T) {
	for _, call := range calls() {
		x, y := right(), right()
		x.s, x.t, x.b = nil, nil, nil
		y.s, y.t, y.b = api.Sign{}, api.Term{}, []byte{}
		sample.Same(t, call, x, y, fmt.Sprint)
		x.s, y.s = sample.Sign(), sample.Sign()
		sample.Same(t, call, x, y, fmt.Sprint)
	}
	h := right().h
	for _, uses := range [][]string{nil, {}} {
		if e := h.Prove("a", "ann", sample.K(), uses, "g00"); e != api.ErrInvalid {
			t.Errorf("Prove: %d", e)
		}
	}
	for _, u := range []api.Term{nil, {}} {
		if e := h.Axiom("a", "ann", u); e != api.ErrInvalid {
			t.Errorf("Axiom: %d", e)
		}
	}
}
