package blame_test

import (
	"fmt"

	"lemmary/api"
	"lemmary/blame"
	"lemmary/sample"
)

func Example() {
	s := sample.Sign()
	k := api.Entry{Name: "k", By: "ann", Says: sample.K()}
	i := api.Entry{Name: "i", By: "ann", Says: api.Term{0, -1, -1}}
	id := api.Entry{Name: "id", By: "bob", Says: api.Term{0, -1, -1}, Uses: []string{"k", "s"}, Proof: sample.Identity()}
	list := []api.Change{
		{Kind: api.CAdd, By: "ann", Entry: i},
		{Kind: api.CName, By: "ann", Name: "i", New: "id"},
		{Kind: api.CSet, By: "bob", Entry: id},
	}
	marks, e := blame.Blame(s, list)
	history, _ := blame.History(s, list, "id")
	fmt.Println(marks, history, e)
	other := k
	other.By = "bob"
	base := []api.Entry{k}
	conflicts, _ := blame.Conflicts(s, base, []api.Entry{other}, nil)
	merge, e := blame.Merged(s, base, []api.Entry{other}, nil)
	fmt.Println(conflicts, merge, e)
	merge, e = blame.Merged(s, base, []api.Entry{id, k}, []api.Entry{other})
	fmt.Println(merge[0].Name, merge[1].By, e)
	// Output:
	// [{id ann bob}] [0 1 2] 0
	// [k] [] 10
	// id bob 0
}
