package kernel_test

import (
	"fmt"

	"lemmary/api"
	"lemmary/kernel"
)

func Example() {
	s := api.Sign{{Name: "C", Arity: 2}}
	g := []api.Term{{0, -1, 0, -2, -1}, {0, 0, -1, 0, -2, -3, 0, 0, -1, -2, 0, -1, -3}}
	p, _, e := kernel.Parse("cite 1\ncite 0\ndetach 0 1\ndetach 2 1\n")
	said, failed, _ := kernel.Run(s, g, p)
	fmt.Println(said[3], failed, e)
	count, _ := kernel.Count(len(g), p)
	height, _ := kernel.Height(len(g), p)
	tree, _ := kernel.Tree(len(g), p)
	fmt.Println(tree, count, height)
	fmt.Println(kernel.Proves(s, g, p, api.Term{0, 0, -1, -2, 0, -1, -2}))
	fmt.Println(kernel.Check(s, g, p, api.Term{0, -1, -2}))
	// Output:
	// [0 -1 -1] -1 0
	// DDg01g00g00 5 3
	// true
	// 3 11
}
