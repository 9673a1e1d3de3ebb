package term_test

import (
	"fmt"

	"lemmary/api"
	"lemmary/term"
)

func Example() {
	s, e := term.Parse("C/2 N/1")
	if e != api.OK {
		return
	}
	k := api.Term{0, -1, 0, -2, -1} // if x0, then if x1, then x0
	depth, _ := term.Depth(s, k)
	vars, _ := term.Vars(s, k)
	form, _ := term.Canonical(s, api.Term{0, -3, -3})
	fmt.Println(len(k), depth, vars, form, term.Alike(s, form, api.Term{0, -12, -12}))
	// Output: 5 3 [0 1] [0 -1 -1] true
}
