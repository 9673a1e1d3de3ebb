package term_test

import (
	"fmt"
	"reflect"
	"slices"
	"testing"

	"lemmary/api"
	"lemmary/sample"
	"lemmary/term"
)

// call is a function of the package, called with terms and paths that it may
// use as it likes; its result is kept apart from its error.
type call struct {
	name string
	do   func(s api.Sign, t, u api.Term, path []int) (any, api.Errno)
}

// calls has all functions that return an error, but Parse.
func calls() []call {
	return []call{
		{"Depth", func(s api.Sign, t, u api.Term, path []int) (any, api.Errno) { r, e := term.Depth(s, t); return r, e }},
		{"Vars", func(s api.Sign, t, u api.Term, path []int) (any, api.Errno) { r, e := term.Vars(s, t); return r, e }},
		{"Counts", func(s api.Sign, t, u api.Term, path []int) (any, api.Errno) { r, e := term.Counts(s, t); return r, e }},
		{"Canonical", func(s api.Sign, t, u api.Term, path []int) (any, api.Errno) {
			r, e := term.Canonical(s, t)
			return r, e
		}},
		{"Shape", func(s api.Sign, t, u api.Term, path []int) (any, api.Errno) { r, e := term.Shape(s, t); return r, e }},
		{"Args", func(s api.Sign, t, u api.Term, path []int) (any, api.Errno) { r, e := term.Args(s, t); return r, e }},
		{"Built", func(s api.Sign, t, u api.Term, path []int) (any, api.Errno) {
			r, e := term.Built(s, 0, []api.Term{t, u})
			return r, e
		}},
		{"At", func(s api.Sign, t, u api.Term, path []int) (any, api.Errno) { r, e := term.At(s, t, path); return r, e }},
		{"Put", func(s api.Sign, t, u api.Term, path []int) (any, api.Errno) {
			r, e := term.Put(s, t, path, u)
			return r, e
		}},
		{"Paths", func(s api.Sign, t, u api.Term, path []int) (any, api.Errno) { r, e := term.Paths(s, t, u); return r, e }},
		{"Parts", func(s api.Sign, t, u api.Term, path []int) (any, api.Errno) { r, e := term.Parts(s, t); return r, e }},
	}
}

// usesSecond tells the calls that take a second term.
func usesSecond(name string) bool {
	return slices.Contains([]string{"Built", "Put", "Paths"}, name)
}

// empty tells whether a result is its zero value; a list may also be empty.
func empty(r any) bool {
	v := reflect.ValueOf(r)
	return v.IsZero() || v.Kind() == reflect.Slice && v.Len() == 0
}

// R1, R3, P1.1, and the error ErrInvalid of 1.1 to 1.3.
func TestWrongArguments(t *testing.T) {
	right := api.Term{-1}
	for _, c := range calls() {
		for _, s := range sample.WrongSigns() {
			if r, e := c.do(s, right, right, nil); e != api.ErrInvalid || !empty(r) {
				t.Errorf("%s with the sign %v: %v, %d", c.name, s, r, e)
			}
		}
		for _, wrong := range sample.WrongTerms() {
			for _, path := range append(wrongPaths(), nil) {
				if r, e := c.do(sample.Sign(), wrong, right, path); e != api.ErrInvalid || !empty(r) {
					t.Errorf("%s of the term %v: %v, %d", c.name, wrong, r, e)
				}
				if r, e := c.do(sample.Sign(), right, wrong, path); usesSecond(c.name) && (e != api.ErrInvalid || !empty(r)) {
					t.Errorf("%s with the term %v: %v, %d", c.name, wrong, r, e)
				}
			}
		}
	}
}

// roomy copies a list into memory whose spare capacity holds a number that no
// list of a test has.
func roomy(list []int) []int {
	memory := append(slices.Clone(list), 77, 77, 77, 77, 77, 77, 77, 77)
	return memory[:len(list)]
}

func untouched(list, want []int) bool {
	spare := list[len(list) : len(list)+8]
	return slices.Equal(list, want) && slices.Equal(spare, slices.Repeat([]int{77}, 8))
}

// R4: arguments stay as they are, also in their spare capacity.
func TestArgumentsStay(t *testing.T) {
	for _, c := range calls() {
		for _, u := range terms() {
			s := sample.Sign()
			memory := append(slices.Clone(s), api.Symbol{Name: "spare"})
			a, b, path := roomy(u), roomy(api.Term{0, -2, 1, -2}), roomy([]int{0})
			c.do(memory[:len(s)], a, b, path)
			if !untouched(a, u) || !untouched(b, []int{0, -2, 1, -2}) || !untouched(path, []int{0}) {
				t.Errorf("%s of %v changes its arguments", c.name, u)
			}
			if !slices.Equal(memory, append(s, api.Symbol{Name: "spare"})) {
				t.Errorf("%s of %v changes its sign", c.name, u)
			}
		}
	}
}

// slicesOf returns all lists of numbers that a result has.
func slicesOf(r any) [][]int {
	switch x := r.(type) {
	case []int:
		return [][]int{x}
	case api.Term:
		return [][]int{x}
	case [][]int:
		return x
	case []api.Term:
		all := make([][]int, len(x))
		for i, u := range x {
			all[i] = u
		}
		return all
	}
	return nil
}

// R4, P1.1: whoever overwrites a list of a result, up to its capacity, changes
// no argument and no other list of the result, and no later result.
func TestResultsAreNewMemory(t *testing.T) {
	for _, c := range calls() {
		for _, u := range append(sample.RandomTerms(sample.Sign(), 60), api.Term{3, 2, 1, -1, 0, 2, 1, -1}, sample.Tower(59)) {
			a, b, path := slices.Clone(u), api.Term{0, -2, 1, -2}, []int{0}
			r, e := c.do(sample.Sign(), a, b, path)
			before := fmt.Sprint(r)
			lists := slicesOf(r)
			for i, list := range lists {
				kept := fmt.Sprint(lists[i+1:])
				for k := range list[:cap(list)] {
					list[:cap(list)][k] = 99
				}
				if fmt.Sprint(lists[i+1:]) != kept {
					t.Errorf("%s of %v: two lists share memory", c.name, u)
				}
			}
			if !slices.Equal(a, u) || !slices.Equal(b, api.Term{0, -2, 1, -2}) || !slices.Equal(path, []int{0}) {
				t.Errorf("%s of %v: the result shares memory with an argument", c.name, u)
			}
			// R7: the same call gives the same result.
			again, f := c.do(sample.Sign(), a, b, path)
			if fmt.Sprint(again) != before || f != e {
				t.Errorf("%s of %v: first %s, then %v", c.name, u, before, again)
			}
		}
	}
}

// R4: a sign that is read shares no memory with one that was read before.
func TestParsedSignsAreNewMemory(t *testing.T) {
	text := term.Format(sample.Sign())
	first, _ := term.Parse(text)
	for i := range first {
		first[i] = api.Symbol{}
	}
	if again, e := term.Parse(text); e != api.OK || !slices.Equal(again, sample.Sign()) {
		t.Errorf("Parse = %v, %d", again, e)
	}
}

// R4: nil and empty lists are equivalent.
func TestNilAndEmpty(t *testing.T) {
	s, none := sample.Sign(), api.Term{}
	if term.ValidSign(api.Sign{}) || term.Valid(s, none) || term.Compare(none, nil) != 0 || term.Format(api.Sign{}) != "" {
		t.Error("an empty sign or term")
	}
	if u, e := term.Built(s, 2, []api.Term{}); e != api.OK || !slices.Equal(u, api.Term{2}) {
		t.Errorf("Built = %v, %d", u, e)
	}
	if u, e := term.Put(s, api.Term{-1}, []int{}, api.Term{2}); e != api.OK || !slices.Equal(u, api.Term{2}) {
		t.Errorf("Put = %v, %d", u, e)
	}
}
