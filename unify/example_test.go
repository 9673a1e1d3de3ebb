package unify_test

import (
	"fmt"

	"lemmary/api"
	"lemmary/unify"
)

func Example() {
	s := api.Sign{{Name: "C", Arity: 2}, {Name: "N", Arity: 1}}
	l, e := unify.Unify(s, api.Term{0, -1, 1, -1}, api.Term{0, 1, -2, -3})
	fmt.Println(l, e)
	// x0 and N x0 have no unifier, but with variables apart they meet.
	fmt.Println(unify.Unifiable(s, api.Term{-1}, api.Term{1, -1}))
	meet, _ := unify.Meet(s, api.Term{-1}, api.Term{1, -1})
	join, _ := unify.Join(s, api.Term{0, -1, -1}, api.Term{0, 1, -1, 1, -2})
	fmt.Println(meet, join)
	// Output:
	// [{0 [1 -2]} {2 [1 1 -2]}] 0
	// false
	// [1 -1] [0 -1 -2]
}
