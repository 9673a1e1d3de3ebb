package kernel

import (
	"slices"

	"lemmary/api"
)

// Needed returns the needed steps of a proof.
func Needed(givens int, p []api.Step) ([]int, api.Errno) {
	if !ValidProof(givens, p) {
		return nil, api.ErrInvalid
	}
	return needed(p), api.OK
}

func needed(p []api.Step) []int {
	is := make([]bool, len(p))
	is[len(p)-1] = true
	for i, step := range slices.Backward(p) {
		if is[i] && step.Kind == api.SDetach {
			is[step.A], is[step.B] = true, true
		}
	}
	indexes := []int{}
	for i := range p {
		if is[i] {
			indexes = append(indexes, i)
		}
	}
	return indexes
}

// Cited returns the givens that needed steps of a proof cite.
func Cited(givens int, p []api.Step) ([]int, api.Errno) {
	if !ValidProof(givens, p) {
		return nil, api.ErrInvalid
	}
	cited := []int{}
	for _, i := range needed(p) {
		if p[i].Kind == api.SCite {
			cited = append(cited, p[i].A)
		}
	}
	slices.Sort(cited)
	return slices.Compact(cited), api.OK
}

// Count returns the count of the last step of a proof.
func Count(givens int, p []api.Step) (int, api.Errno) {
	if !ValidProof(givens, p) {
		return 0, api.ErrInvalid
	}
	n := counted(p)
	if n > api.MaxCount {
		return 0, api.ErrLimit
	}
	return n, api.OK
}

// counted returns the count of the last step of a valid proof, which is always
// below 2^MaxSteps.
func counted(p []api.Step) int {
	return measured(p, func(major, minor int) int { return major + minor + 1 })
}

// Height returns the height of the last step of a proof.
func Height(givens int, p []api.Step) (int, api.Errno) {
	if !ValidProof(givens, p) {
		return 0, api.ErrInvalid
	}
	return measured(p, func(major, minor int) int { return max(major, minor) + 1 }), api.OK
}

// measured returns the measure of the last step of a valid proof: that of a step
// that cites is 1, that of one that detaches follows from those of its steps.
func measured(p []api.Step, detached func(major, minor int) int) int {
	measures := make([]int, len(p))
	for i, step := range p {
		measures[i] = 1
		if step.Kind == api.SDetach {
			measures[i] = detached(measures[step.A], measures[step.B])
		}
	}
	return measures[len(p)-1]
}

// Joined returns the proof that detaches what two proofs say.
func Joined(givens int, p, q []api.Step) ([]api.Step, api.Errno) {
	if !ValidProof(givens, p) || !ValidProof(givens, q) {
		return nil, api.ErrInvalid
	}
	if len(p)+len(q)+1 > api.MaxSteps {
		return nil, api.ErrLimit
	}
	both := slices.Clone(p)
	for _, step := range q {
		if step.Kind == api.SDetach {
			step.A += len(p)
			step.B += len(p)
		}
		both = append(both, step)
	}
	return append(both, api.Step{Kind: api.SDetach, A: len(p) - 1, B: len(both) - 1}), api.OK
}

// Moved returns the proof, for so many other givens as count, that cites to[i]
// instead of the given i.
func Moved(givens int, p []api.Step, to []int, count int) ([]api.Step, api.Errno) {
	if !ValidProof(givens, p) {
		return nil, api.ErrInvalid
	}
	if len(to) != givens {
		return nil, api.ErrSize
	}
	if !validNumber(count) || !below(count, to...) {
		return nil, api.ErrRange
	}
	moved := slices.Clone(p)
	for i, step := range p {
		if step.Kind == api.SCite {
			moved[i].A = to[step.A]
		}
	}
	return moved, api.OK
}
