package kernel_test

import (
	"fmt"
	"math"
	"slices"
	"testing"

	"lemmary/api"
	"lemmary/kernel"
	"lemmary/sample"
)

// input is what a call may use: a sign, terms, givens, how many givens there
// are where no terms are given, proofs and what their givens are moved to.
type input struct {
	s       api.Sign
	m, n, t api.Term
	g       []api.Term
	givens  int
	p, q    []api.Step
	to      []int
}

// right returns valid input, of which every report is true.
func right() input {
	return input{
		s: sample.Sign(), m: api.Term{0, 1, -1, -1}, n: api.Term{1, 2}, t: api.Term{0, -1, -1},
		g: ks(), givens: 2, p: sample.Identity(), q: sample.Identity()[:3], to: []int{1, 0},
	}
}

// calls has all functions that may return ErrInvalid. Their uses are the names
// of fields of input, d for a number of givens, and f for one that is not too
// small for a proof.
func calls() []sample.Call[input] {
	return []sample.Call[input]{
		sample.Of("Detach", "smn", func(x input) (any, api.Errno) { return kernel.Detach(x.s, x.m, x.n) }),
		sample.Of("Run", "sgp", func(x input) (any, api.Errno) {
			said, at, e := kernel.Run(x.s, x.g, x.p)
			return []any{said, at}, e
		}),
		sample.Of("Says", "sgp", func(x input) (any, api.Errno) { return kernel.Says(x.s, x.g, x.p) }),
		sample.Of("Check", "sgpt", func(x input) (any, api.Errno) { return kernel.Check(x.s, x.g, x.p, x.t) }),
		sample.Of("Needed", "dfp", func(x input) (any, api.Errno) { return kernel.Needed(x.givens, x.p) }),
		sample.Of("Cited", "dfp", func(x input) (any, api.Errno) { return kernel.Cited(x.givens, x.p) }),
		sample.Of("Count", "dfp", func(x input) (any, api.Errno) { return kernel.Count(x.givens, x.p) }),
		sample.Of("Height", "dfp", func(x input) (any, api.Errno) { return kernel.Height(x.givens, x.p) }),
		sample.Of("Tree", "dfp", func(x input) (any, api.Errno) { return kernel.Tree(x.givens, x.p) }),
		sample.Of("Untree", "d", func(x input) (any, api.Errno) { return kernel.Untree(x.givens, "DDg01g00g00") }),
		sample.Of("Joined", "dfpq", func(x input) (any, api.Errno) { return kernel.Joined(x.givens, x.p, x.q) }),
		sample.Of("Moved", "dfp", func(x input) (any, api.Errno) { return kernel.Moved(x.givens, x.p, x.to, 2) }),
		sample.Of("Reachable", "sg", func(x input) (any, api.Errno) { return kernel.Reachable(x.s, x.g, 2) }),
	}
}

// reports has all functions that only report something.
func reports() []sample.Call[input] {
	return []sample.Call[input]{
		sample.Plain("Detaches", "smn", func(x input) any { return kernel.Detaches(x.s, x.m, x.n) }),
		sample.Plain("ValidGivens", "sg", func(x input) any { return kernel.ValidGivens(x.s, x.g) }),
		sample.Plain("ValidProof", "dfp", func(x input) any { return kernel.ValidProof(x.givens, x.p) }),
		sample.Plain("Proves", "sgpt", func(x input) any { return kernel.Proves(x.s, x.g, x.p, x.t) }),
	}
}

// texts has the functions that write and read texts, whatever they are.
func texts() []sample.Call[input] {
	return []sample.Call[input]{
		sample.Plain("Format", "p", func(x input) any { return kernel.Format(x.p) }),
		sample.Of("Parse", "p", func(x input) (any, api.Errno) {
			p, _, e := kernel.Parse(kernel.Format(x.p))
			return p, e
		}),
	}
}

// wrongInputs returns inputs of which one field that a call uses is wrong.
func wrongInputs(uses string) []input {
	wrong := []input{}
	add := func(change func(x *input)) {
		x := right()
		change(&x)
		wrong = append(wrong, x)
	}
	for _, use := range uses {
		switch use {
		case 's':
			for _, s := range sample.WrongSigns() {
				add(func(x *input) { x.s = s })
				add(func(x *input) {
					x.s, x.m, x.n, x.t, x.g = s, api.Term{-1}, api.Term{-1}, api.Term{-1}, []api.Term{{-1}, {-1}}
				})
			}
		case 'm', 'n', 't', 'g':
			for _, u := range sample.WrongTerms() {
				add(func(x *input) { changeTerm(x, use, u) })
			}
		case 'd':
			for _, givens := range []int{-1, 61, math.MinInt, math.MaxInt} {
				add(func(x *input) { x.givens, x.to = givens, make([]int, max(0, min(givens, 61))) })
			}
		case 'f':
			for givens := range 2 {
				add(func(x *input) { x.givens, x.to = givens, make([]int, givens) })
			}
		case 'p', 'q':
			for _, p := range sample.WrongProofs() {
				add(func(x *input) { changeProof(x, use, p) })
			}
		}
	}
	return wrong
}

func changeTerm(x *input, use rune, u api.Term) {
	switch use {
	case 'm':
		x.m = u
	case 'n':
		x.n = u
	case 't':
		x.t = u
	case 'g':
		x.g = []api.Term{sample.K(), u}
	}
}

func changeProof(x *input, use rune, p []api.Step) {
	if use == 'p' {
		x.p = p
	} else {
		x.q = p
	}
}

// R1, R3, P4.1: ErrInvalid of 4.1 to 4.5, and the reports of 4.1 and 4.2, which
// are false then.
func TestWrongArguments(t *testing.T) {
	sample.Refused(t, calls(), right(), wrongInputs, api.ErrInvalid)
	sample.Refused(t, reports(), right(), wrongInputs, api.OK)
}

// 4.1 to 4.5: ErrInvalid comes ahead of all errors that would be there, too.
func TestInvalidFirst(t *testing.T) {
	s, none := sample.Sign(), api.Term{0}
	if _, e := kernel.Detach(s, api.Term{-1}, none); e != api.ErrInvalid {
		t.Errorf("Detach: %d", e)
	}
	if i, e := kernel.Check(s, []api.Term{{2}}, sample.Doubling(2), none); i != 0 || e != api.ErrInvalid {
		t.Errorf("Check = %d, %d", i, e)
	}
	if _, e := kernel.Count(1, append(sample.Doubling(58), sample.Cite(1), sample.Detach(57, 57))); e != api.ErrInvalid {
		t.Errorf("Count: %d", e)
	}
	if _, e := kernel.Tree(0, sample.Doubling(60)); e != api.ErrInvalid {
		t.Errorf("Tree: %d", e)
	}
	if _, e := kernel.Joined(1, sample.Doubling(60), append(sample.Doubling(59), sample.Cite(1))); e != api.ErrInvalid {
		t.Errorf("Joined: %d", e)
	}
	if _, e := kernel.Moved(2, []api.Step{sample.Cite(2)}, []int{0, 2}, 2); e != api.ErrInvalid {
		t.Errorf("Moved: %d", e)
	}
}

// inputs returns valid inputs of many kinds.
func inputs() []input {
	all := []input{right()}
	detachments(100, func(s api.Sign, m, n api.Term) {
		x := right()
		x.m, x.n, x.t = m, n, n
		all = append(all, x)
	})
	var d sample.Dice
	proofs(100, 6, func(s api.Sign, g []api.Term, p []api.Step) {
		x := right()
		x.g, x.givens, x.p, x.to = g, len(g), p, make([]int, len(g))
		x.q = d.Proof(len(g), 5, func(p []api.Step) bool { return true })
		x.t, _ = kernel.Says(s, g, p)
		if d.Roll(3) == 0 {
			x.p = x.q
		}
		for i := range x.to {
			x.to[i] = d.Roll(2)
		}
		all = append(all, x)
	})
	return all
}

// roomy copies input into memory with spare capacity that holds what no input
// of a test has.
func roomy(x input) input {
	x.s = sample.Roomy(x.s, api.Symbol{Name: "spare"})
	x.m, x.n, x.t, x.to = sample.Roomy(x.m, 77), sample.Roomy(x.n, 77), sample.Roomy(x.t, 77), sample.Roomy(x.to, 77)
	x.g = sample.RoomyTerms(x.g)
	x.p, x.q = sample.Roomy(x.p, sample.Cite(88)), sample.Roomy(x.q, sample.Cite(88))
	return x
}

// all tells everything that input holds, up to the capacities of its lists.
func all(x input) string {
	told := fmt.Sprint(x.s[:cap(x.s)], x.p[:cap(x.p)], x.q[:cap(x.q)])
	for _, u := range append(slices.Clone(x.g[:cap(x.g)]), x.m, x.n, x.t, x.to) {
		told += fmt.Sprint(u[:cap(u)])
	}
	return told
}

// R4, R7, P4.1
func TestMemory(t *testing.T) {
	memory := sample.Memory[input]{Roomy: roomy, All: all, Text: fmt.Sprint}
	memory.Unshared(t, slices.Concat(calls(), reports(), texts()), inputs())
}

// R4: nil and empty lists are equivalent.
func TestNilAndEmpty(t *testing.T) {
	s := sample.Sign()
	for _, g := range [][]api.Term{nil, {}} {
		if l, e := kernel.Reachable(s, g, 1); e != api.OK || len(l) != 0 || !kernel.ValidGivens(s, g) {
			t.Errorf("Reachable = %v, %d", l, e)
		}
	}
	for _, p := range [][]api.Step{nil, {}} {
		if kernel.ValidProof(1, p) || kernel.Format(p) != "" {
			t.Error("a proof without steps")
		}
	}
	for _, to := range [][]int{nil, {}} {
		if p, e := kernel.Moved(1, sample.Doubling(2), to, 1); e != api.ErrSize || len(p) != 0 {
			t.Errorf("Moved = %v, %d", p, e)
		}
	}
}
