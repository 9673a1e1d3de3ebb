package term_test

import (
	"lemmary/api"
	"lemmary/sample"
)

// terms returns all small terms and some great ones.
func terms() []api.Term {
	return append(sample.SmallTerms(sample.Sign(), 4, 11, 1, 0), sample.RandomTerms(sample.Sign(), 200)...)
}

// paths returns the paths of all parts of a term, told by the document's words.
func paths(s api.Sign, t api.Term) [][]int {
	all := [][]int{{}}
	if t[0] < 0 {
		return all
	}
	from := 1
	for k := range s[t[0]].Arity {
		to := from + 1
		for !sample.IsTerm(s, t[from:to]) {
			to++
		}
		for _, path := range paths(s, t[from:to]) {
			all = append(all, append([]int{k}, path...))
		}
		from = to
	}
	return all
}

// partAt returns the part at a path that there is.
func partAt(s api.Sign, t api.Term, path []int) api.Term {
	for _, k := range path {
		from := 1
		for range k {
			from += length(s, t[from:])
		}
		t = t[from : from+length(s, t[from:])]
	}
	return t
}

// length returns how many numbers the term has with which a list begins.
func length(s api.Sign, t api.Term) int {
	for n := 1; ; n++ {
		if sample.IsTerm(s, t[:n]) {
			return n
		}
	}
}
