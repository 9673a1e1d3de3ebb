package sample

import (
	"math"
	"slices"

	"lemmary/api"
)

// K is "if x0, then if x1, then x0".
func K() api.Term {
	return api.Term{0, -1, 0, -2, -1}
}

// S is "if, if x0, then if x1, then x2, then, if, if x0, then x1, then if x0,
// then x2".
func S() api.Term {
	return api.Term{0, 0, -1, 0, -2, -3, 0, 0, -1, -2, 0, -1, -3}
}

// Cite is a step that cites.
func Cite(a int) api.Step {
	return api.Step{Kind: api.SCite, A: a}
}

// Detach is a step that detaches.
func Detach(a, b int) api.Step {
	return api.Step{Kind: api.SDetach, A: a, B: b}
}

// Identity is the proof of C x0 x0 from the givens K and S.
func Identity() []api.Step {
	return []api.Step{Cite(1), Cite(0), Detach(0, 1), Detach(2, 1)}
}

// Doubling is a proof with the given 0 alone, of which each step but the first
// detaches the one before from itself.
func Doubling(steps int) []api.Step {
	p := []api.Step{Cite(0)}
	for i := range steps - 1 {
		p = append(p, Detach(i, i))
	}
	return p
}

// Proof returns a proof of up to most steps: a random step is taken if good
// accepts the proof with it, and the first citation always.
func (d *Dice) Proof(givens, most int, good func(p []api.Step) bool) []api.Step {
	p := []api.Step{Cite(d.Roll(givens))}
	for range 2 * most {
		step := Cite(d.Roll(givens))
		if d.Roll(3) > 0 {
			step = Detach(d.Roll(len(p)), d.Roll(len(p)))
		}
		longer := append(slices.Clone(p), step)
		if len(p) < most && good(longer) {
			p = longer
		}
	}
	return p
}

// WrongProofs holds proofs that are not valid for two givens.
func WrongProofs() [][]api.Step {
	wrong := [][]api.Step{nil, {}, Doubling(61), slices.Repeat([]api.Step{Cite(0)}, 100000)}
	change := func(i int, step api.Step) {
		p := append(Identity(), Cite(0))
		p[i] = step
		wrong = append(wrong, p, p[:i+1])
	}
	for i := range Identity() {
		for _, kind := range []int{-1, 0, 3, math.MinInt, math.MaxInt} {
			change(i, api.Step{Kind: kind})
		}
		for _, a := range []int{-1, 2, 60, math.MinInt, math.MaxInt} {
			change(i, Cite(a))
		}
		for _, b := range []int{-1, 1, math.MinInt, math.MaxInt} {
			change(i, api.Step{Kind: api.SCite, B: b})
		}
		for _, a := range []int{-1, i, i + 1, math.MinInt, math.MaxInt} {
			change(i, Detach(a, 0))
			change(i, Detach(0, a))
		}
	}
	return wrong
}
