package short_test

import (
	"fmt"

	"lemmary/api"
	"lemmary/kernel"
	"lemmary/short"
)

func Example() {
	s := api.Sign{{Name: "C", Arity: 2}}
	g := []api.Term{{0, -1, 0, -2, -1}, {0, 0, -1, 0, -2, -3, 0, 0, -1, -2, 0, -1, -3}}
	p, _, _ := kernel.Parse("cite 1\ncite 0\ncite 0\ndetach 0 1\ndetach 3 2\n")
	p, e := short.Merged(s, g, p)
	fmt.Print(e, "\n", kernel.Format(p))
	times, _ := short.Times(len(g), p)
	lemma, rest, _ := short.Cut(len(g), p, 2)
	fmt.Println(times)
	fmt.Print(kernel.Format(lemma), kernel.Format(rest))
	// Output:
	// 0
	// cite 1
	// cite 0
	// detach 0 1
	// detach 2 1
	// [1 2 1 1]
	// cite 1
	// cite 0
	// detach 0 1
	// cite 0
	// cite 2
	// detach 1 0
}
