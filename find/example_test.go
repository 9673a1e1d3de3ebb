package find_test

import (
	"fmt"

	"lemmary/api"
	"lemmary/find"
)

func Example() {
	s := api.Sign{{Name: "C", Arity: 2}, {Name: "N", Arity: 1}}
	shelf := []api.Term{{0, -1, -1}, {0, -2, -2}, {0, 1, -1, -2}}
	instances, e := find.Instances(s, shelf, api.Term{0, -1, -2})
	groups, _ := find.Groups(s, shelf)
	base, _ := find.Base(s, shelf)
	closeness, _ := find.Closeness(s, shelf[2], api.Term{0, 1, -1, 1, -1})
	fmt.Println(instances, e, groups, base, closeness)
	// Output: [0 1 2] 0 [[0 1] [2]] [0 2] 2
}
