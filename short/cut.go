package short

import (
	"slices"

	"lemmary/api"
	"lemmary/kernel"
)

// Cut cuts a proof at a step: into the lemma, which ends with this step, and the
// rest, which cites the lemma as a further given.
func Cut(givens int, p []api.Step, i int) (lemma, rest []api.Step, e api.Errno) {
	needed, e := kernel.Needed(givens, p)
	if e != api.OK {
		return nil, nil, e
	}
	if !isStep(p, i) {
		return nil, nil, api.ErrRange
	}
	if i == len(p)-1 || !slices.Contains(needed, i) {
		return nil, nil, api.ErrState
	}
	if givens == api.MaxList {
		return nil, nil, api.ErrLimit
	}
	whole := slices.Clone(p)
	whole[i] = cite(givens)
	lemma, _ = Trimmed(givens, p[:i+1])
	rest, _ = Trimmed(givens+1, whole)
	return lemma, rest, api.OK
}

// Inlined returns the proof with a lemma put back into a rest.
func Inlined(givens int, lemma, rest []api.Step) ([]api.Step, api.Errno) {
	if !kernel.ValidProof(givens, lemma) {
		return nil, api.ErrInvalid
	}
	if givens == api.MaxList {
		return nil, api.ErrLimit
	}
	if !kernel.ValidProof(givens+1, rest) {
		return nil, api.ErrInvalid
	}
	both := behind(lemma, rest)
	whole := folded(both, func(i int) int {
		if both[i] == cite(givens) {
			return len(lemma) - 1
		}
		return i
	})
	if len(whole) > api.MaxSteps {
		return nil, api.ErrLimit
	}
	return whole, api.OK
}

// behind returns the steps of one proof with those of another one behind them.
func behind(p, q []api.Step) []api.Step {
	both := slices.Clone(p)
	for _, step := range q {
		if step.Kind == api.SDetach {
			step.A += len(p)
			step.B += len(p)
		}
		both = append(both, step)
	}
	return both
}

// Unused returns the givens that no step of a proof cites.
func Unused(givens int, p []api.Step) ([]int, api.Errno) {
	if !kernel.ValidProof(givens, p) {
		return nil, api.ErrInvalid
	}
	return chosen(givens, func(given int) bool { return !slices.Contains(p, cite(given)) }), api.OK
}

// Dropped returns a proof for those givens alone that a step of it cites, and
// these givens.
func Dropped(givens int, p []api.Step) ([]api.Step, []int, api.Errno) {
	if !kernel.ValidProof(givens, p) {
		return nil, nil, api.ErrInvalid
	}
	stay := chosen(givens, func(given int) bool { return slices.Contains(p, cite(given)) })
	to := make([]int, givens)
	for i, given := range stay {
		to[given] = i
	}
	dropped, _ := kernel.Moved(givens, p, to, len(stay))
	return dropped, stay, api.OK
}

// chosen returns those of so many givens to which the answer is yes.
func chosen(givens int, asked func(given int) bool) []int {
	indexes := []int{}
	for given := range givens {
		if asked(given) {
			indexes = append(indexes, given)
		}
	}
	return indexes
}
