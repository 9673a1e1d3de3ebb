package find

import (
	"cmp"
	"slices"

	"lemmary/api"
	"lemmary/term"
)

// Closeness returns the number of symbols in the join of a term and a question.
func Closeness(s api.Sign, t, q api.Term) (int, api.Errno) {
	if !term.Valid(s, t) || !term.Valid(s, q) {
		return 0, api.ErrInvalid
	}
	return common(s, t, q), api.OK
}

// common returns how many symbols the join of two valid terms has. The join
// itself is not made, because it may have more variables than a term may.
func common(s api.Sign, a, b api.Term) int {
	if a[0] < 0 || a[0] != b[0] {
		return 0
	}
	left, _ := term.Args(s, a)
	right, _ := term.Args(s, b)
	symbols := 1
	for k, arg := range left {
		symbols += common(s, arg, right[k])
	}
	return symbols
}

// rank is what tells which of two statements comes first.
type rank struct {
	closeness, size int
}

// Ranked returns all statements of a shelf, the closest to a question first.
func Ranked(s api.Sign, l []api.Term, q api.Term) ([]int, api.Errno) {
	if !Valid(s, l) || !term.Valid(s, q) {
		return nil, api.ErrInvalid
	}
	ranks := make([]rank, len(l))
	for i, t := range l {
		ranks[i] = rank{closeness: common(s, t, q), size: len(t)}
	}
	return ranking(ranks, func(a, b rank) int {
		return cmp.Or(cmp.Compare(b.closeness, a.closeness), cmp.Compare(a.size, b.size))
	}), api.OK
}

// ranking returns the indexes of some ranks in the order of the ranks, the
// lesser index first where ranks are equal.
func ranking[R any](ranks []R, compare func(a, b R) int) []int {
	indexes := make([]int, len(ranks))
	for i := range indexes {
		indexes[i] = i
	}
	slices.SortStableFunc(indexes, func(i, k int) int { return compare(ranks[i], ranks[k]) })
	return indexes
}
