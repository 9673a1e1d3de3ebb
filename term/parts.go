package term

import (
	"iter"
	"slices"

	"lemmary/api"
)

// Args returns the arguments of a term; a variable has none.
func Args(s api.Sign, t api.Term) ([]api.Term, api.Errno) {
	if !Valid(s, t) {
		return nil, api.ErrInvalid
	}
	args := arguments(s, t)
	for k, arg := range args {
		args[k] = slices.Clone(arg)
	}
	return args, api.OK
}

// arguments returns the arguments of a valid term as slices of it. Each has a
// capacity of its own, so that an append to one never writes into the next.
func arguments(s api.Sign, t api.Term) []api.Term {
	if t[0] < 0 {
		return nil
	}
	args := make([]api.Term, s[t[0]].Arity)
	from := 1
	for k := range args {
		to := end(s, t, from)
		args[k] = t[from:to:to]
		from = to
	}
	return args
}

// Built returns the term of a symbol with arguments.
func Built(s api.Sign, symbol int, args []api.Term) (api.Term, api.Errno) {
	if !ValidSign(s) {
		return nil, api.ErrInvalid
	}
	for _, arg := range args {
		if !validTerm(s, arg) {
			return nil, api.ErrInvalid
		}
	}
	if symbol < 0 || symbol >= len(s) {
		return nil, api.ErrName
	}
	if len(args) != s[symbol].Arity {
		return nil, api.ErrSize
	}
	t := api.Term{symbol}
	for _, arg := range args {
		t = append(t, arg...)
	}
	if len(t) > api.MaxSize {
		return nil, api.ErrLimit
	}
	return t, api.OK
}

// At returns the part of a term at a path.
func At(s api.Sign, t api.Term, path []int) (api.Term, api.Errno) {
	if !Valid(s, t) {
		return nil, api.ErrInvalid
	}
	from, to, found := locate(s, t, path)
	if !found {
		return nil, api.ErrNone
	}
	return slices.Clone(t[from:to]), api.OK
}

// Put returns the term t with u in place of the part at a path.
func Put(s api.Sign, t api.Term, path []int, u api.Term) (api.Term, api.Errno) {
	if !Valid(s, t) || !validTerm(s, u) {
		return nil, api.ErrInvalid
	}
	from, to, found := locate(s, t, path)
	if !found {
		return nil, api.ErrNone
	}
	if from+len(u)+len(t)-to > api.MaxSize {
		return nil, api.ErrLimit
	}
	return slices.Concat(t[:from], u, t[to:]), api.OK
}

// locate returns where the part of a valid term at a path begins and ends.
func locate(s api.Sign, t api.Term, path []int) (from, to int, found bool) {
	for _, k := range path {
		x := t[from]
		if x < 0 || k < 0 || k >= s[x].Arity {
			return 0, 0, false
		}
		from++
		for range k {
			from = end(s, t, from)
		}
	}
	return from, end(s, t, from), true
}

// Paths returns the paths of all parts of t that are equal to u.
func Paths(s api.Sign, t, u api.Term) ([][]int, api.Errno) {
	if !Valid(s, t) || !validTerm(s, u) {
		return nil, api.ErrInvalid
	}
	paths := [][]int{}
	for path, part := range places(s, t) {
		if slices.Equal(part, u) {
			paths = append(paths, path)
		}
	}
	return paths, api.OK
}

// Parts returns the different parts of a term, in the order of Compare.
func Parts(s api.Sign, t api.Term) ([]api.Term, api.Errno) {
	if !Valid(s, t) {
		return nil, api.ErrInvalid
	}
	parts := []api.Term{}
	for _, part := range places(s, t) {
		parts = append(parts, slices.Clone(part))
	}
	slices.SortFunc(parts, Compare)
	equal := func(a, b api.Term) bool { return Compare(a, b) == 0 }
	return slices.CompactFunc(parts, equal), api.OK
}

// places gives each path of a valid term with the part at it: the whole before
// its parts, earlier arguments first. Each path is new memory, so that whoever
// ranges may keep it; the parts are slices of the term.
func places(s api.Sign, t api.Term) iter.Seq2[[]int, api.Term] {
	return func(yield func([]int, api.Term) bool) {
		var walk func(path []int, part api.Term) bool
		walk = func(path []int, part api.Term) bool {
			if !yield(path, part) {
				return false
			}
			for k, arg := range arguments(s, part) {
				if !walk(append(slices.Clone(path), k), arg) {
					return false
				}
			}
			return true
		}
		walk(nil, t)
	}
}
