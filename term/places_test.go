package term

import (
	"slices"
	"testing"

	"lemmary/api"
)

// Whoever ranges over places may stop at any of them.
func TestPlacesStop(t *testing.T) {
	s := api.Sign{{Name: "C", Arity: 2}, {Name: "N", Arity: 1}}
	u := api.Term{0, 0, -1, 1, -2, 1, -1}
	starts := [][]int{{}, {0}, {0, 0}, {0, 1}, {0, 1, 0}, {1}, {1, 0}}
	for stop := range starts {
		met := 0
		for path := range places(s, u) {
			if !slices.Equal(path, starts[met]) {
				t.Errorf("the place %d is %v", met, path)
			}
			met++
			if met > stop {
				break
			}
		}
		if met != stop+1 {
			t.Errorf("%d places instead of %d", met, stop+1)
		}
	}
}

// An append to one argument leaves the next one as it is.
func TestArgumentsHaveCapacitiesOfTheirOwn(t *testing.T) {
	s := api.Sign{{Name: "C", Arity: 2}}
	u := api.Term{0, -1, -2}
	args := arguments(s, u)
	longer := append(args[0], -9)
	if !slices.Equal(u, api.Term{0, -1, -2}) || !slices.Equal(longer, api.Term{-1, -9}) || !slices.Equal(args[1], api.Term{-2}) {
		t.Errorf("the term is %v, its arguments %v", u, args)
	}
}
