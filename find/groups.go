package find

import (
	"slices"

	"lemmary/api"
	"lemmary/term"
)

// Groups returns the lists of statements of a shelf that are alike.
func Groups(s api.Sign, l []api.Term) ([][]int, api.Errno) {
	return grouped(s, l, term.Canonical)
}

// Shapes returns the lists of statements of a shelf that have equal shapes.
func Shapes(s api.Sign, l []api.Term) ([][]int, api.Errno) {
	return grouped(s, l, term.Shape)
}

// grouped returns the lists of statements of a shelf that have the same form,
// in the order of their first ones.
func grouped(s api.Sign, l []api.Term, form func(s api.Sign, t api.Term) (api.Term, api.Errno)) ([][]int, api.Errno) {
	if !Valid(s, l) {
		return nil, api.ErrInvalid
	}
	groups := [][]int{}
	number := map[key]int{}
	for i, t := range l {
		f, _ := form(s, t)
		k := keyed(f)
		if _, known := number[k]; !known {
			number[k] = len(groups)
			groups = append(groups, nil)
		}
		group := number[k]
		groups[group] = append(groups[group], i)
	}
	return groups, api.OK
}

// key is a form that is a key of a map. A list of numbers that is a term is
// never the beginning of another one, so that the zeros behind it tell nothing.
type key [api.MaxSize]int

func keyed(t api.Term) key {
	var k key
	copy(k[:], t)
	return k
}

// firsts returns the first statement of each group of a shelf.
func firsts(s api.Sign, l []api.Term) ([]int, api.Errno) {
	groups, e := Groups(s, l)
	if e != api.OK {
		return nil, e
	}
	indexes := make([]int, len(groups))
	for i, group := range groups {
		indexes[i] = group[0]
	}
	return indexes, api.OK
}

// Sorted returns the canonical forms of the statements of a shelf, each once.
func Sorted(s api.Sign, l []api.Term) ([]api.Term, api.Errno) {
	indexes, e := firsts(s, l)
	if e != api.OK {
		return nil, e
	}
	forms := make([]api.Term, len(indexes))
	for i, first := range indexes {
		forms[i], _ = term.Canonical(s, l[first])
	}
	slices.SortFunc(forms, term.Compare)
	return forms, api.OK
}
