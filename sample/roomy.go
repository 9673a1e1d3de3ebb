package sample

import (
	"slices"

	"lemmary/api"
)

// Roomy copies a list into memory with spare capacity, which holds something
// that no list of a test has.
func Roomy[S ~[]E, E any](list S, spare E) S {
	return append(slices.Clone(list), spare, spare, spare)[:len(list)]
}

// RoomyTerms copies terms, and their list, into memory with spare capacity, which
// holds something that no term of a test has.
func RoomyTerms(list []api.Term) []api.Term {
	terms := Roomy(list, api.Term{99})
	for i, t := range list {
		terms[i] = Roomy(t, 77)
	}
	return terms
}

// RoomyEntries copies entries, and their list, into memory with spare capacity,
// which holds something that no entry of a test has.
func RoomyEntries(list []api.Entry) []api.Entry {
	entries := Roomy(list, api.Entry{Name: "spare"})
	for i, x := range list {
		entries[i].Says = Roomy(x.Says, 77)
		entries[i].Uses = Roomy(x.Uses, "spare")
		entries[i].Proof = Roomy(x.Proof, Cite(77))
	}
	return entries
}

// AllOfEntries tells everything that entries hold, up to the capacities of their
// lists.
func AllOfEntries(list []api.Entry, text func(words ...any) string) string {
	told := ""
	for _, x := range list[:cap(list)] {
		told += text(x.Name, x.By, x.Says[:cap(x.Says)], x.Uses[:cap(x.Uses)], x.Proof[:cap(x.Proof)])
	}
	return told
}
