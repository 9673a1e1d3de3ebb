package house_test

import (
	"fmt"

	"lemmary/api"
	"lemmary/house"
)

func Example() {
	s := api.Sign{{Name: "C", Arity: 2}}
	h, _ := house.New(s)
	fmt.Print(house.Do(h, "axiom k ann (x0->(x1->x0))\naxiom s ann ((x0->(x1->x2))->((x0->x1)->(x0->x2)))\nprove i bob (x0->x0) s,k DDg00g01g01\naxioms i\n"))
	e := h.Set("i", "cy", api.Term{0, -1, -1}, []string{"i"}, "g00")
	fmt.Println(e)
	fmt.Println(h.Lines()[0])
	back, e := house.Read(s, h.Bytes())
	fmt.Println(house.Same(back, h), e)
	// Output:
	// ok
	// ok
	// ok
	// k s
	// 12
	// {0 axiom k ann (x0->(x1->x0)) 14456676894213199444}
	// true 0
}
