package find

import (
	"iter"
	"slices"

	"lemmary/api"
	"lemmary/term"
	"lemmary/unify"
)

// Having returns the statements of a shelf that have a question.
func Having(s api.Sign, l []api.Term, q api.Term) ([]int, api.Errno) {
	return searched(s, l, q, func(t api.Term) bool {
		for _, part := range parts(s, t) {
			if unify.Instance(s, q, part) {
				return true
			}
		}
		return false
	})
}

// Where returns the paths of all parts of a term that are instances of a
// question.
func Where(s api.Sign, t, q api.Term) ([][]int, api.Errno) {
	if !term.Valid(s, t) || !term.Valid(s, q) {
		return nil, api.ErrInvalid
	}
	paths := [][]int{}
	for path, part := range parts(s, t) {
		if unify.Instance(s, q, part) {
			paths = append(paths, path)
		}
	}
	return paths, api.OK
}

// place is a part of a term with its path.
type place struct {
	path []int
	part api.Term
}

// parts gives all parts of a valid term with their paths: the whole before its
// parts, earlier arguments first. Each path is new memory, so that whoever
// ranges may keep it.
func parts(s api.Sign, t api.Term) iter.Seq2[[]int, api.Term] {
	return func(yield func([]int, api.Term) bool) {
		left := []place{{part: t}}
		for len(left) > 0 {
			next := left[len(left)-1]
			left = left[:len(left)-1]
			if !yield(next.path, next.part) {
				return
			}
			args, _ := term.Args(s, next.part)
			for k, arg := range slices.Backward(args) {
				left = append(left, place{append(slices.Clone(next.path), k), arg})
			}
		}
	}
}
