package short

import (
	"slices"

	"lemmary/api"
)

// Repeated returns the lists of steps of a proof that say the same.
func Repeated(s api.Sign, g []api.Term, p []api.Step) ([][]int, api.Errno) {
	said, e := told(s, g, p)
	if e != api.OK {
		return nil, e
	}
	lists := make([][]int, len(p)) // by the first step of each
	for i, first := range firsts(said) {
		lists[first] = append(lists[first], i)
	}
	return slices.DeleteFunc(lists, func(list []int) bool { return len(list) < 2 }), api.OK
}

// firsts returns for each step the first one that says the same.
func firsts(said []api.Term) []int {
	known := map[statement]int{}
	first := make([]int, len(said))
	for i, t := range said {
		x := stated(t)
		if _, met := known[x]; !met {
			known[x] = i
		}
		first[i] = known[x]
	}
	return first
}

// statement is a term that is a key of a map. A term is never the beginning of
// another one, so that the zeros behind it tell nothing.
type statement [api.MaxSize]int

func stated(t api.Term) statement {
	var x statement
	copy(x[:], t)
	return x
}
