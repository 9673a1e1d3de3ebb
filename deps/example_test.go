package deps_test

import (
	"fmt"

	"lemmary/api"
	"lemmary/deps"
)

func Example() {
	s := api.Sign{{Name: "C", Arity: 2}}
	l, _, e := deps.Parse(s, `entry k by ann says <C x0 C x1 x0> uses
entry s by ann says <C C x0 C x1 x2 C C x0 x1 C x0 x2> uses
entry i by bob says <C x0 x0> uses k s
cite 1
cite 0
detach 0 1
detach 2 1
`)
	sound, _ := deps.Sound(s, l)
	fmt.Println(e, sound)
	leans, _ := deps.Leans(s, l, "i")
	breaks, _ := deps.Breaks(s, l, "k", api.Term{0, -1, -1})
	loses, _ := deps.Loses(s, l, "s")
	fmt.Println(leans, breaks, loses)
	// Output:
	// 0 true
	// [k s] [i] [i]
}
