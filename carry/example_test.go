package carry_test

import (
	"fmt"

	"lemmary/api"
	"lemmary/carry"
	"lemmary/deps"
	"lemmary/tongue"
)

func Example() {
	s := api.Sign{{Name: "C", Arity: 2}, {Name: "K", Arity: 2}}
	l, _, _ := deps.Parse(s, `entry and by ann says <C K x0 x1 x0> uses
entry k by ann says <C x0 C x1 x0> uses
entry s by ann says <C C x0 C x1 x2 C C x0 x1 C x0 x2> uses
entry same by bob says <C x0 x0> uses
`)
	d, _ := tongue.Parse("0:01 1:10")
	other, e := carry.Carried(s, s, d, l)
	fmt.Print(e, "\n", deps.Format(s, other[:1]))
	owed, _ := carry.Owed(s, s, d, l, l)
	fmt.Println(owed)
	moved, _ := carry.Moved(s, l, "k", "same", "kept", "cy")
	chain, _ := carry.Chain(s, l, "and", "k", "and_k", "cy")
	fmt.Print(deps.Format(s, []api.Entry{moved, chain}))
	// Output:
	// 0
	// entry and by ann says <C K x0 x1 x1> uses
	// [and]
	// entry kept by cy says <C x0 C x1 x1> uses k same
	// cite 0
	// cite 1
	// detach 0 1
	// entry and_k by cy says <C K x0 x1 C x2 x0> uses and k s
	// cite 2
	// cite 1
	// cite 1
	// detach 1 2
	// detach 0 3
	// cite 0
	// detach 4 5
}
