package sample

import (
	"slices"

	"lemmary/api"
)

// Roomy copies a list into memory with spare capacity, which holds something
// that no list of a test has.
func Roomy[S ~[]E, E any](list S, spare E) S {
	return append(slices.Clone(list), spare, spare, spare)[:len(list)]
}

// RoomyTerms copies terms, and their list, into memory with spare capacity, which
// holds something that no term of a test has.
func RoomyTerms(list []api.Term) []api.Term {
	terms := Roomy(list, api.Term{99})
	for i, t := range list {
		terms[i] = Roomy(t, 77)
	}
	return terms
}
