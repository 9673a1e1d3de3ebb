package sample

import "slices"

// Roomy copies a list into memory with spare capacity, which holds something
// that no list of a test has.
func Roomy[S ~[]E, E any](list S, spare E) S {
	return append(slices.Clone(list), spare, spare, spare)[:len(list)]
}
