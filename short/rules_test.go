package short_test

import (
	"fmt"
	"math"
	"slices"
	"testing"

	"lemmary/api"
	"lemmary/kernel"
	"lemmary/sample"
	"lemmary/short"
)

// input is what a call may use: a sign, givens, how many givens there are where
// no terms are given, proofs, a rest for one given more, and a step's index.
type input struct {
	s       api.Sign
	g       []api.Term
	givens  int
	p, q, r []api.Step
	i       int
}

// right returns valid input, of which every report is true, with a step that
// saves.
func right() input {
	p := append(sample.Identity(), sample.Detach(3, 3))
	return input{s: sample.Sign(), g: ks(), givens: 2, p: p, q: example(), r: []api.Step{sample.Cite(0), sample.Cite(2), sample.Detach(1, 0)}, i: 3}
}

// calls has all functions that return an error. Their uses are the names of
// fields of input, d for a number of givens, and f for one that is not too small
// for a proof.
func calls() []sample.Call[input] {
	return []sample.Call[input]{
		sample.Of("Trimmed", "dfp", func(x input) (any, api.Errno) { return short.Trimmed(x.givens, x.p) }),
		sample.Of("Merged", "sgp", func(x input) (any, api.Errno) { return short.Merged(x.s, x.g, x.p) }),
		sample.Of("Citing", "sgp", func(x input) (any, api.Errno) { return short.Citing(x.s, x.g, x.p) }),
		sample.Of("Shortest", "sgp", func(x input) (any, api.Errno) { return short.Shortest(x.s, x.g, x.p) }),
		sample.Of("Times", "dfp", func(x input) (any, api.Errno) { return short.Times(x.givens, x.p) }),
		sample.Of("Saving", "dfp", func(x input) (any, api.Errno) { return short.Saving(x.givens, x.p, x.i) }),
		sample.Of("Best", "dfp", func(x input) (any, api.Errno) { return short.Best(x.givens, x.p) }),
		sample.Of("Cut", "dfp", func(x input) (any, api.Errno) {
			lemma, rest, e := short.Cut(x.givens, x.p, x.i)
			return []any{lemma, rest}, e
		}),
		sample.Of("Inlined", "dfpr", func(x input) (any, api.Errno) { return short.Inlined(x.givens, x.p, x.r) }),
		sample.Of("Repeated", "sgp", func(x input) (any, api.Errno) { return short.Repeated(x.s, x.g, x.p) }),
		sample.Of("Unused", "dfp", func(x input) (any, api.Errno) { return short.Unused(x.givens, x.p) }),
		sample.Of("Dropped", "dfp", func(x input) (any, api.Errno) {
			p, stay, e := short.Dropped(x.givens, x.p)
			return []any{p, stay}, e
		}),
		sample.Of("Weight", "sgp", func(x input) (any, api.Errno) { return short.Weight(x.s, x.g, x.p) }),
		sample.Of("Common", "sgpq", func(x input) (any, api.Errno) { return short.Common(x.s, x.g, x.p, x.q) }),
		sample.Of("Better", "sgpq", func(x input) (any, api.Errno) { return short.Better(x.s, x.g, x.p, x.q) }),
	}
}

// reports has the function that only reports something.
func reports() []sample.Call[input] {
	return []sample.Call[input]{
		sample.Plain("Good", "sgp", func(x input) any { return short.Good(x.s, x.g, x.p) }),
	}
}

// wrongInputs returns inputs of which one field that a call uses is wrong.
func wrongInputs(uses string) []input {
	wrong := []input{}
	add := func(change func(x *input)) {
		x := right()
		change(&x)
		wrong = append(wrong, x)
	}
	for _, use := range uses {
		switch use {
		case 's':
			for _, s := range sample.WrongSigns() {
				add(func(x *input) { x.s = s })
				add(func(x *input) { x.s, x.g, x.p, x.q = s, []api.Term{{-1}, {-1}}, sample.Doubling(1), sample.Doubling(1) })
			}
		case 'g':
			for _, u := range sample.WrongTerms() {
				add(func(x *input) { x.g = []api.Term{sample.K(), u} })
				add(func(x *input) { x.g = append(ks(), u) })
			}
			for _, g := range [][]api.Term{nil, ks()[:1], slices.Repeat(ks(), 31), slices.Repeat(ks(), 10000)} {
				add(func(x *input) { x.g = g })
			}
		case 'd':
			for _, givens := range []int{-1, 61, math.MinInt, math.MaxInt} {
				add(func(x *input) { x.givens = givens })
			}
		case 'f':
			for givens := range 2 {
				add(func(x *input) { x.givens = givens })
			}
		default:
			for _, p := range sample.WrongProofs() {
				add(func(x *input) { changeProof(x, use, p) })
			}
		}
	}
	return wrong
}

func changeProof(x *input, use rune, p []api.Step) {
	switch use {
	case 'p':
		x.p = p
	case 'q':
		x.q = p
	case 'r':
		x.r = p
		if kernel.ValidProof(3, p) { // the further given is cited
			x.r = []api.Step{sample.Cite(3)}
		}
	}
}

// R1, R3, P7.1: ErrInvalid of 7.1 to 7.4, and the report, which is false then.
func TestWrongArguments(t *testing.T) {
	sample.Refused(t, calls(), right(), wrongInputs, api.ErrInvalid)
	sample.Refused(t, reports(), right(), wrongInputs, api.OK)
}

// 7.1 to 7.4, R2: ErrInvalid comes ahead of all errors that would be there, too.
func TestInvalidFirst(t *testing.T) {
	s, g := sample.Sign(), badGivens()
	for _, p := range bad() {
		for _, q := range sample.WrongProofs() {
			if kernel.ValidProof(len(g), q) {
				continue
			}
			for _, pair := range [][2][]api.Step{{p, q}, {q, p}, {q, q}} {
				if l, e := short.Common(s, g, pair[0], pair[1]); e != api.ErrInvalid || len(l) != 0 {
					t.Errorf("Common(%v) = %v, %d", pair, l, e)
				}
				if is, e := short.Better(s, g, pair[0], pair[1]); e != api.ErrInvalid || is {
					t.Errorf("Better(%v) = %t, %d", pair, is, e)
				}
			}
		}
	}
	great := append(sample.Doubling(59), sample.Detach(59, 0)) // detaches itself
	if _, e := short.Times(1, great); e != api.ErrInvalid {
		t.Errorf("Times: %d", e)
	}
	if _, e := short.Best(1, great); e != api.ErrInvalid {
		t.Errorf("Best: %d", e)
	}
	if _, e := short.Merged(s, append(g, api.Term{0}), bad()[0]); e != api.ErrInvalid {
		t.Errorf("Merged: %d", e)
	}
	if _, e := short.Citing(s, append(g, api.Term{0}), bad()[0]); e != api.ErrInvalid {
		t.Errorf("Citing: %d", e)
	}
}

// inputs returns valid inputs of many kinds.
func inputs() []input {
	var d sample.Dice
	all := []input{right()}
	pairs(200, 10, func(s api.Sign, g []api.Term, p, q []api.Step) {
		if twice := append(slices.Clone(p), sample.Detach(len(p)-1, len(p)-1)); isGood(s, g, twice) {
			p = twice
		}
		x := input{s: s, g: g, givens: len(g), p: p, q: q, i: max(0, len(p)-1-d.Roll(3))}
		x.r = d.Proof(len(g)+1, 10, func(p []api.Step) bool { return true })
		all = append(all, x)
	})
	return all
}

// roomy copies input into memory with spare capacity that holds what no input
// of a test has.
func roomy(x input) input {
	x.s = sample.Roomy(x.s, api.Symbol{Name: "spare"})
	x.g = sample.RoomyTerms(x.g)
	x.p, x.q, x.r = sample.Roomy(x.p, sample.Cite(88)), sample.Roomy(x.q, sample.Cite(88)), sample.Roomy(x.r, sample.Cite(88))
	return x
}

// all tells everything that input holds, up to the capacities of its lists.
func all(x input) string {
	told := fmt.Sprint(x.s[:cap(x.s)], x.p[:cap(x.p)], x.q[:cap(x.q)], x.r[:cap(x.r)])
	for _, u := range x.g[:cap(x.g)] {
		told += fmt.Sprint(u[:cap(u)])
	}
	return told
}

// R4, R7, P7.1
func TestMemory(t *testing.T) {
	memory := sample.Memory[input]{Roomy: roomy, All: all, Text: fmt.Sprint}
	memory.Unshared(t, slices.Concat(calls(), reports()), inputs())
}

// P2: nothing changes if the variables of givens are called otherwise.
func TestNamesMeanNothing(t *testing.T) {
	for _, x := range inputs() {
		y := x
		y.g = slices.Clone(x.g)
		for i, u := range x.g {
			y.g[i] = sample.Form(u)
		}
		for _, call := range slices.Concat(calls(), reports()) {
			sample.Same(t, call, x, y, fmt.Sprint)
		}
	}
}

// R4: nil and empty lists are equivalent.
func TestNilAndEmpty(t *testing.T) {
	s := sample.Sign()
	for _, p := range [][]api.Step{nil, {}} {
		if _, e := short.Trimmed(1, p); e != api.ErrInvalid || short.Good(s, ks(), p) {
			t.Errorf("Trimmed of nothing: %d", e)
		}
		if _, e := short.Inlined(1, p, sample.Doubling(1)); e != api.ErrInvalid {
			t.Errorf("Inlined of nothing: %d", e)
		}
		if _, e := short.Better(s, ks(), sample.Doubling(1), p); e != api.ErrInvalid {
			t.Errorf("Better than nothing: %d", e)
		}
	}
	for _, g := range [][]api.Term{nil, {}} {
		if _, e := short.Weight(s, g, sample.Doubling(1)); e != api.ErrInvalid || short.Good(s, g, sample.Doubling(1)) {
			t.Errorf("Weight without givens: %d", e)
		}
	}
}
