package term_test

import (
	"slices"
	"testing"

	"lemmary/api"
	"lemmary/sample"
	"lemmary/term"
)

// 1.2
func TestCanonical(t *testing.T) {
	tests := []struct{ u, form api.Term }{
		{api.Term{-5}, api.Term{-1}}, {api.Term{2}, api.Term{2}}, {api.Term{0, -3, -3}, api.Term{0, -1, -1}},
		{api.Term{0, -2, -1}, api.Term{0, -1, -2}}, {api.Term{0, -1, 0, -2, -1}, api.Term{0, -1, 0, -2, -1}},
		{api.Term{3, -12, 1, -1, 0, -12, -2}, api.Term{3, -1, 1, -2, 0, -1, -3}},
		{api.Term{0, -12, 0, -11, 0, -10, 0, -9, 0, -8, 0, -7, 0, -6, 0, -5, 0, -4, 0, -3, 0, -2, -1}, api.Term{0, -1, 0, -2, 0, -3, 0, -4, 0, -5, 0, -6, 0, -7, 0, -8, 0, -9, 0, -10, 0, -11, -12}},
	}
	for _, test := range tests {
		if form, e := term.Canonical(sample.Sign(), test.u); !slices.Equal(form, test.form) || e != api.OK {
			t.Errorf("Canonical(%v) = %v, %d", test.u, form, e)
		}
		if term.IsCanonical(sample.Sign(), test.u) != slices.Equal(test.u, test.form) || !term.IsCanonical(sample.Sign(), test.form) {
			t.Errorf("IsCanonical(%v) or (%v)", test.u, test.form)
		}
	}
}

// 1.2: a canonical term has the variables 0, 1, 2, ... in this order.
func TestIsCanonicalByVars(t *testing.T) {
	s := sample.Sign()
	for _, u := range terms() {
		vars, e := term.Vars(s, u)
		want := true
		for i, v := range vars {
			want = want && v == i
		}
		if got := term.IsCanonical(s, u); got != want || e != api.OK {
			t.Errorf("IsCanonical(%v) = %v", u, got)
		}
	}
}

// P1.2
func TestCanonicalForm(t *testing.T) {
	s := sample.Sign()
	for _, u := range terms() {
		form, e := term.Canonical(s, u)
		again, f := term.Canonical(s, form)
		if e != api.OK || f != api.OK || !term.IsCanonical(s, form) || !term.Alike(s, u, form) || !slices.Equal(again, form) {
			t.Errorf("Canonical(%v) = %v, %d", u, form, e)
		}
	}
}

// 1.2
func TestAlike(t *testing.T) {
	tests := []struct {
		a, b  api.Term
		alike bool
	}{
		{api.Term{-5}, api.Term{-1}, true}, {api.Term{0, -1, -2}, api.Term{0, -2, -1}, true}, {api.Term{0, -4, 0, -7, -4}, api.Term{0, -1, 0, -2, -1}, true},
		{api.Term{2}, api.Term{2}, true}, {api.Term{0, -1, -1}, api.Term{0, -1, -2}, false}, {api.Term{-1}, api.Term{2}, false},
		{api.Term{1, -1}, api.Term{-1}, false}, {api.Term{0, -1, 2}, api.Term{0, 2, -1}, false},
	}
	for _, test := range tests {
		if term.Alike(sample.Sign(), test.a, test.b) != test.alike || term.Alike(sample.Sign(), test.b, test.a) != test.alike {
			t.Errorf("Alike(%v, %v) is not %v", test.a, test.b, test.alike)
		}
	}
}

// swapped exchanges two variables of a term, which makes one that is alike it.
func swapped(t api.Term, v, w int) api.Term {
	u := slices.Clone(t)
	for i, x := range t {
		if x == -v-1 {
			u[i] = -w - 1
		}
		if x == -w-1 {
			u[i] = -v - 1
		}
	}
	return u
}

// P1.2: alike is reflexive and follows renamings, there and back.
func TestAlikeOfRenamed(t *testing.T) {
	s := sample.Sign()
	for _, u := range terms() {
		if !term.Alike(s, u, u) {
			t.Errorf("%v is not alike itself", u)
		}
		a, b := swapped(u, 0, 7), swapped(swapped(u, 1, 11), 0, 3)
		if !term.Alike(s, u, a) || !term.Alike(s, a, u) || !term.Alike(s, a, b) {
			t.Errorf("%v, %v and %v are not alike", u, a, b)
		}
	}
}

// P1.2: alike is symmetric and transitive, and tells what Canonical tells.
func TestAlikeIsAnEquivalence(t *testing.T) {
	s := api.Sign{{Name: "C", Arity: 2}, {Name: "T"}}
	all := sample.SmallTerms(s, 5, 11, 1, 0)
	for _, a := range all {
		form, _ := term.Canonical(s, a)
		for _, b := range all {
			other, _ := term.Canonical(s, b)
			alike := term.Alike(s, a, b)
			if alike != term.Alike(s, b, a) || alike != slices.Equal(form, other) {
				t.Fatalf("Alike(%v, %v) = %v", a, b, alike)
			}
			if alike && term.Alike(s, a, form) != term.Alike(s, b, form) {
				t.Fatalf("%v, %v and %v", a, b, form)
			}
		}
	}
}

// 1.2
func TestShape(t *testing.T) {
	tests := []struct{ u, shape api.Term }{
		{api.Term{-12}, api.Term{-1}}, {api.Term{2}, api.Term{2}}, {api.Term{0, -3, 1, -1}, api.Term{0, -1, 1, -1}},
		{api.Term{3, -1, 0, -2, -3, 2}, api.Term{3, -1, 0, -1, -1, 2}}, {sample.Tower(60), sample.Tower(60)},
	}
	for _, test := range tests {
		if shape, e := term.Shape(sample.Sign(), test.u); !slices.Equal(shape, test.shape) || e != api.OK {
			t.Errorf("Shape(%v) = %v, %d", test.u, shape, e)
		}
	}
}

// 1.2: false for wrong arguments.
func TestFormsOfWrongArguments(t *testing.T) {
	s, u := sample.Sign(), api.Term{-1}
	for _, wrong := range sample.WrongTerms() {
		if term.IsCanonical(s, wrong) || term.Alike(s, wrong, wrong) || term.Alike(s, u, wrong) || term.Alike(s, wrong, u) {
			t.Errorf("the wrong term %v", wrong)
		}
	}
	for _, wrong := range sample.WrongSigns() {
		if term.IsCanonical(wrong, u) || term.Alike(wrong, u, u) {
			t.Errorf("the wrong sign %v", wrong)
		}
	}
}
