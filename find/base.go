package find

import (
	"slices"

	"lemmary/api"
	"lemmary/term"
	"lemmary/unify"
)

// Base returns the first of the least bases of a shelf. Every base has one
// statement of each group that has none over it, and these are a base already.
func Base(s api.Sign, l []api.Term) ([]int, api.Errno) {
	base, e := firsts(s, l)
	if e != api.OK {
		return nil, e
	}
	return slices.DeleteFunc(base, func(i int) bool { return len(over(s, l, l[i])) > 0 }), api.OK
}

// IsBase reports whether a list of indexes is a base of a shelf.
func IsBase(s api.Sign, l []api.Term, b []int) bool {
	if !Valid(s, l) || !ascending(b, len(l)) {
		return false
	}
	for _, t := range l {
		if !slices.ContainsFunc(b, func(i int) bool { return unify.Instance(s, l[i], t) }) {
			return false
		}
	}
	return true
}

// ascending reports whether numbers are indexes of so many statements, each
// greater than the one before.
func ascending(b []int, count int) bool {
	least := 0
	for _, i := range b {
		if i < least || i >= count {
			return false
		}
		least = i + 1
	}
	return true
}

// Over returns the statements of a shelf of which the statement i is an
// instance, but those alike it.
func Over(s api.Sign, l []api.Term, i int) ([]int, api.Errno) {
	if !Valid(s, l) {
		return nil, api.ErrInvalid
	}
	if i < 0 || i >= len(l) {
		return nil, api.ErrName
	}
	return over(s, l, l[i]), api.OK
}

// over returns the statements of a valid shelf of which a valid term is an
// instance, but those alike it.
func over(s api.Sign, l []api.Term, t api.Term) []int {
	return chosen(l, func(u api.Term) bool { return unify.Instance(s, u, t) && !term.Alike(s, u, t) })
}

// Lattice returns the pairs of first statements of groups of which the second
// one is an instance of the first one, with no group in between.
func Lattice(s api.Sign, l []api.Term) ([][2]int, api.Errno) {
	indexes, e := firsts(s, l)
	if e != api.OK {
		return nil, e
	}
	isOver := make([][]bool, len(l)) // by the more general one, then by the other one
	for _, i := range indexes {
		isOver[i] = make([]bool, len(l))
		for _, j := range indexes {
			isOver[i][j] = i != j && unify.Instance(s, l[i], l[j])
		}
	}
	pairs := [][2]int{}
	for _, i := range indexes {
		for _, j := range indexes {
			between := func(k int) bool { return isOver[i][k] && isOver[k][j] }
			if isOver[i][j] && !slices.ContainsFunc(indexes, between) {
				pairs = append(pairs, [2]int{i, j})
			}
		}
	}
	return pairs, api.OK
}
