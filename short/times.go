package short

import (
	"slices"

	"lemmary/api"
	"lemmary/kernel"
)

// Times returns for each step of a proof how often it comes in the tree of the
// last step.
func Times(givens int, p []api.Step) ([]int, api.Errno) {
	if !kernel.ValidProof(givens, p) {
		return nil, api.ErrInvalid
	}
	times := timed(p)
	if slices.Max(times) > api.MaxCount {
		return nil, api.ErrLimit
	}
	return times, api.OK
}

// timed returns for each step of a valid proof how often it comes in the tree of
// the last step, which is always less than 2^MaxSteps times.
func timed(p []api.Step) []int {
	times := make([]int, len(p))
	times[len(p)-1] = 1
	for i, step := range slices.Backward(p) {
		if step.Kind == api.SDetach {
			times[step.A] += times[i]
			times[step.B] += times[i]
		}
	}
	return times
}

// Saving returns the saving of a step of a proof.
func Saving(givens int, p []api.Step, i int) (int, api.Errno) {
	if !kernel.ValidProof(givens, p) {
		return 0, api.ErrInvalid
	}
	if !isStep(p, i) {
		return 0, api.ErrRange
	}
	return saving(givens, p, i, timed(p)[i])
}

// isStep reports whether a proof has a step with an index.
func isStep(p []api.Step, i int) bool {
	return i >= 0 && i < len(p)
}

// saving returns the saving of a step of a valid proof that comes so many times.
func saving(givens int, p []api.Step, i, times int) (int, api.Errno) {
	if times == 0 {
		return 0, api.OK
	}
	count, e := kernel.Count(givens, p[:i+1])
	if e != api.OK || times > api.MaxCount {
		return 0, api.ErrLimit
	}
	// All copies are in the tree of the last step, which is less than
	// 2^MaxSteps steps: so is the product.
	n := (times - 1) * (count - 1)
	if n > api.MaxCount {
		return 0, api.ErrLimit
	}
	return n, api.OK
}

// Best returns the step of a proof with the greatest saving.
func Best(givens int, p []api.Step) (int, api.Errno) {
	if !kernel.ValidProof(givens, p) {
		return 0, api.ErrInvalid
	}
	best, most := 0, 0
	for i, times := range timed(p) {
		n, e := saving(givens, p, i, times)
		if e != api.OK {
			return 0, e
		}
		if n > most {
			best, most = i, n
		}
	}
	if most == 0 {
		return 0, api.ErrNone
	}
	return best, api.OK
}
