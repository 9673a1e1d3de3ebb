package tongue_test

import (
	"fmt"

	"lemmary/api"
	"lemmary/tongue"
)

func Example() {
	s := api.Sign{{Name: "C", Arity: 2}, {Name: "N", Arity: 1}}
	arrows, _ := tongue.Write(s, 2, api.Term{0, -1, 1, -2})
	brackets, e := tongue.Translate(s, 2, 3, arrows)
	fmt.Println(arrows, brackets, e)
	k := api.Sign{{Name: "C", Arity: 2}, {Name: "K", Arity: 2}}
	d, _ := tongue.Parse("0:01 1:10") // K's arguments change places
	u, _ := tongue.Carried(k, k, d, api.Term{1, -1, 0, -2, -1})
	order, _ := tongue.Order(k, d)
	fmt.Println(u, order)
	// Output:
	// (x0 -> N(x1)) [C x0 [N x1]] 0
	// [1 0 -2 -1 -1] 2
}
