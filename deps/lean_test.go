package deps_test

import (
	"slices"
	"testing"

	"lemmary/api"
	"lemmary/deps"
	"lemmary/sample"
)

// search is a function that returns names for a name.
type search struct {
	name string
	do   func(s api.Sign, l []api.Entry, name string) ([]string, api.Errno)
}

// 6.2: names that are missing are in no list, and what leans on itself is in
// its own ones.
func TestLeaning(t *testing.T) {
	s := sample.Sign()
	l := append(sample.Library(), graph([]string{"b", "i", "gone"}, []string{"a", "b", "c"}, []string{"c", "a"}, []string{"d", "d"}, []string{"e", "gone"})...)
	leaning := search{"Leans", deps.Leans}
	users := search{"Users", deps.Users}
	axioms := search{"Axioms", deps.Axioms}
	tests := []struct {
		search
		of   string
		want []string
	}{
		{leaning, "k", nil}, {leaning, "i", []string{"k", "s"}}, {leaning, "b", []string{"i", "k", "s"}},
		{leaning, "a", []string{"a", "b", "c", "i", "k", "s"}}, {leaning, "c", []string{"a", "b", "c", "i", "k", "s"}},
		{leaning, "d", []string{"d"}}, {leaning, "e", nil},
		{users, "k", []string{"a", "b", "c", "i"}}, {users, "i", []string{"a", "b", "c"}}, {users, "b", []string{"a", "c"}},
		{users, "a", []string{"a", "c"}}, {users, "d", []string{"d"}}, {users, "e", nil},
		{axioms, "k", []string{"k"}}, {axioms, "s", []string{"s"}}, {axioms, "i", []string{"k", "s"}}, {axioms, "c", []string{"k", "s"}},
		{axioms, "d", nil}, {axioms, "e", nil},
	}
	for _, test := range tests {
		if names, e := test.do(s, l, test.of); e != api.OK || !slices.Equal(names, test.want) {
			t.Errorf("%s of %s = %v, %d", test.name, test.of, names, e)
		}
	}
	if names, e := deps.Idle(s, l); e != api.OK || !slices.Equal(names, []string{"e"}) {
		t.Errorf("Idle = %v, %d", names, e)
	}
	if names, e := deps.Idle(s, append(l, graph([]string{"z", "e"}, []string{"f"})...)); e != api.OK || !slices.Equal(names, []string{"f", "z"}) {
		t.Errorf("Idle = %v, %d", names, e)
	}
}

// 6.2, P6.3: against all pairs of names of which one leans on the other.
func TestLeaningOfAll(t *testing.T) {
	s := sample.Sign()
	check := func(l []api.Entry) {
		on := leans(l)
		isAxiom := func(x api.Entry) bool { return len(x.Proof) == 0 }
		for _, x := range l {
			wants := map[string][]string{
				"Leans":  picked(l, func(y api.Entry) bool { return on[[2]string{x.Name, y.Name}] }),
				"Users":  picked(l, func(y api.Entry) bool { return on[[2]string{y.Name, x.Name}] }),
				"Axioms": picked(l, func(y api.Entry) bool { return isAxiom(y) && on[[2]string{x.Name, y.Name}] }),
			}
			if isAxiom(x) {
				wants["Axioms"] = []string{x.Name}
			}
			for _, call := range []search{{"Leans", deps.Leans}, {"Users", deps.Users}, {"Axioms", deps.Axioms}} {
				if names, e := call.do(s, l, x.Name); e != api.OK || !slices.Equal(names, wants[call.name]) {
					t.Errorf("%s of %s in %v = %v, %d", call.name, x.Name, l, names, e)
				}
			}
		}
		want := picked(l, func(x api.Entry) bool {
			return !slices.ContainsFunc(l, func(y api.Entry) bool { return slices.Contains(y.Uses, x.Name) })
		})
		if names, e := deps.Idle(s, l); e != api.OK || !slices.Equal(names, want) {
			t.Errorf("Idle of %v = %v, %d", l, names, e)
		}
	}
	graphs(500, 8, check)
	libraries(500, 12, check)
}
