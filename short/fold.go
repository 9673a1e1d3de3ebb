package short

import (
	"iter"

	"lemmary/api"
)

// nothing stands for a step that goes, and that no step that stays detaches.
const nothing = -1

// folded returns a proof from which steps go. For each step, stands tells which
// one is there in its place: itself, if it stays; an earlier one that stays, and
// that is detached instead; or nothing. The proof ends with the step that stands
// for the last one.
func folded(p []api.Step, stands func(i int) int) []api.Step {
	shorter := []api.Step{}
	places := make([]int, len(p)) // in the shorter proof, of the steps that stay
	for i, step := range staying(p, stands) {
		if step.Kind == api.SDetach {
			step.A, step.B = places[stands(step.A)], places[stands(step.B)]
		}
		places[i] = len(shorter)
		shorter = append(shorter, step)
	}
	return shorter
}

// staying gives the steps that stay, with their indexes, up to the one that
// stands for the last step.
func staying(p []api.Step, stands func(i int) int) iter.Seq2[int, api.Step] {
	return func(yield func(int, api.Step) bool) {
		last := stands(len(p) - 1)
		for i, step := range p[:last+1] {
			if stands(i) == i && !yield(i, step) {
				return
			}
		}
	}
}
