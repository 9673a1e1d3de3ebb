package deps_test

import (
	"slices"
	"testing"

	"lemmary/api"
	"lemmary/deps"
	"lemmary/sample"
)

// 6.1
func TestName(t *testing.T) {
	for _, name := range sample.RightNames() {
		if !deps.Name(name) {
			t.Errorf("%q is no name", name)
		}
	}
	for _, name := range sample.WrongNames() {
		if deps.Name(name) {
			t.Errorf("%q is a name", name)
		}
	}
	for c := range 256 {
		letter := 'a' <= c && c <= 'z'
		if deps.Name(string([]byte{byte(c)})) != letter {
			t.Errorf("the name %d", c)
		}
		if deps.Name(string([]byte{'q', byte(c), 'q'})) != (letter || '0' <= c && c <= '9' || c == '_') {
			t.Errorf("the byte %d in a name", c)
		}
	}
}

// rightEntries holds entries at the limits, and ordinary ones.
func rightEntries() []api.Entry {
	right := sample.Library()
	i := right[2]
	many := sample.Names(api.MaxUses)
	for _, name := range sample.RightNames() {
		right = append(right, api.Entry{Name: name, By: "b", Says: sample.K()}, api.Entry{Name: "b", By: name, Says: sample.K()})
		right = append(right, api.Entry{Name: "b", By: "b", Says: i.Says, Uses: []string{"other", name}, Proof: i.Proof})
	}
	return append(right,
		api.Entry{Name: "self", By: "self", Says: sample.K(), Uses: []string{"self"}, Proof: sample.Doubling(60)},
		api.Entry{Name: "many", By: "ann", Says: sample.Tower(60), Uses: many, Proof: []api.Step{sample.Cite(11)}},
		api.Entry{Name: "vars", By: "ann", Says: sample.Chain(sample.Vars(0, 11)...), Uses: many, Proof: []api.Step{sample.Cite(0)}},
		api.Entry{Name: "none", By: "ann", Says: api.Term{2}, Uses: []string{}, Proof: []api.Step{}})
}

// 6.1: an entry may use itself, and what its proof does not cite.
func TestValidEntry(t *testing.T) {
	s := sample.Sign()
	for _, x := range rightEntries() {
		if !deps.ValidEntry(s, x) || !deps.Valid(s, []api.Entry{x}) {
			t.Errorf("%v is not valid", x)
		}
		for _, wrong := range sample.WrongSigns() {
			if deps.ValidEntry(wrong, x) {
				t.Errorf("%v is valid for %v", x, wrong)
			}
		}
	}
	for _, x := range sample.WrongEntries() {
		if deps.ValidEntry(s, x) || deps.Valid(s, []api.Entry{x}) {
			t.Errorf("%v is valid", x)
		}
	}
}

// 6.1: the limits of libraries, and names that come twice.
func TestValid(t *testing.T) {
	s := sample.Sign()
	full := []api.Entry{}
	for _, name := range sample.Names(api.MaxEntries) {
		full = append(full, api.Entry{Name: name, By: "ann", Says: sample.K()})
	}
	for _, l := range [][]api.Entry{nil, {}, sample.Library(), full, full[:59], graph([]string{"a", "b"}), graph([]string{"a", "a"})} {
		if !deps.Valid(s, l) {
			t.Errorf("%v is not valid", l)
		}
		for _, wrong := range sample.WrongSigns() {
			if deps.Valid(wrong, l) {
				t.Errorf("%v is valid for %v", l, wrong)
			}
		}
	}
	for _, l := range append(sample.WrongLibraries(), append(full, api.Entry{Name: "a", By: "ann", Says: sample.K()})) {
		if deps.Valid(s, l) {
			t.Errorf("%v is valid", l)
		}
	}
	libraries(300, 12, func(l []api.Entry) {
		if !deps.Valid(s, l) {
			t.Errorf("%v is not valid", l)
		}
	})
}

// 6.1
func TestFind(t *testing.T) {
	libraries(300, 12, func(l []api.Entry) {
		for i, x := range l {
			if k, e := deps.Find(sample.Sign(), l, x.Name); k != i || e != api.OK {
				t.Errorf("Find(%q) = %d, %d", x.Name, k, e)
			}
		}
	})
}

// named has all functions that are given a name, each for some library.
func named(l []api.Entry, name string) map[string]api.Errno {
	s := sample.Sign()
	errors := map[string]api.Errno{}
	_, errors["Find"] = deps.Find(s, l, name)
	_, errors["Leans"] = deps.Leans(s, l, name)
	_, errors["Users"] = deps.Users(s, l, name)
	_, errors["Axioms"] = deps.Axioms(s, l, name)
	_, errors["Holds"] = deps.Holds(s, l, name)
	_, errors["Breaks"] = deps.Breaks(s, l, name, sample.K())
	_, errors["Loses"] = deps.Loses(s, l, name)
	_, errors["Strongest"] = deps.Strongest(s, l, name)
	return errors
}

// 6.1 to 6.3: ErrName for all names that are not there, also where some entry
// cites them, and behind ErrInvalid.
func TestNoSuchName(t *testing.T) {
	l := append(sample.Library(), graph([]string{"lost", "gone", "k"})...)
	for _, name := range append(sample.WrongNames(), "gone", "ann", "bob", "ki", "x0") {
		for called, e := range named(l, name) {
			if e != api.ErrName {
				t.Errorf("%s of %q: %d", called, name, e)
			}
		}
		for called, e := range named(nil, name) {
			if e != api.ErrName {
				t.Errorf("%s of %q in no library: %d", called, name, e)
			}
		}
		for called, e := range named(append(l, l[0]), name) {
			if e != api.ErrInvalid {
				t.Errorf("%s of %q in a wrong library: %d", called, name, e)
			}
		}
		for _, u := range append(sample.WrongTerms(), api.Term{-2}) {
			if _, e := deps.Breaks(sample.Sign(), l, name, u); e != api.ErrInvalid {
				t.Errorf("Breaks of %q that would say %v: %d", name, u, e)
			}
		}
	}
	if k, e := deps.Find(sample.Sign(), l, "gone"); k != 0 || e != api.ErrName {
		t.Errorf("Find = %d, %d", k, e)
	}
}

// 6.1
func TestMissing(t *testing.T) {
	s := sample.Sign()
	l := append(sample.Library(), graph([]string{"lost", "gone", "k", "a"}, []string{"last", "gone", "last", "zz"})...)
	if names, e := deps.Missing(s, l); e != api.OK || !slices.Equal(names, []string{"a", "gone", "zz"}) {
		t.Errorf("Missing = %v, %d", names, e)
	}
	libraries(500, 12, func(l []api.Entry) {
		want := []string{}
		for pair := range leans(l) {
			if at(l, pair[1]) < 0 && !slices.Contains(want, pair[1]) {
				want = append(want, pair[1])
			}
		}
		slices.Sort(want)
		if names, e := deps.Missing(s, l); e != api.OK || !slices.Equal(names, want) {
			t.Errorf("Missing of %v = %v, %d; want %v", l, names, e, want)
		}
	})
}
