package term_test

import (
	"math"
	"math/rand/v2"
	"slices"
	"testing"

	"lemmary/api"
	"lemmary/sample"
	"lemmary/term"
)

// 1.1
func TestValid(t *testing.T) {
	s := sample.Sign()
	for _, u := range []api.Term{{-1}, {-12}, {2}, {0, -1, 0, -2, -1}, {1, 1, 2}, {3, -1, 2, 1, -3}, sample.Tower(60)} {
		if !term.Valid(s, u) {
			t.Errorf("%v is not valid", u)
		}
	}
	for _, u := range sample.WrongTerms() {
		if term.Valid(s, u) {
			t.Errorf("%v is valid", u)
		}
	}
	for _, wrong := range sample.WrongSigns() {
		if term.Valid(wrong, api.Term{-1}) {
			t.Errorf("a term is valid for %v", wrong)
		}
	}
}

// 1.1: of all short lists those are valid that are just one term.
func TestValidOfAllLists(t *testing.T) {
	s := sample.Sign()
	sample.Lists([]int{-13, -12, -1, 0, 1, 2, 3, 4}, 5, func(u api.Term) {
		if got, want := term.Valid(s, u), sample.IsTerm(s, u); got != want {
			t.Errorf("Valid(%v) = %v", u, got)
		}
	})
}

// 1.1: an index is only good in a sign that has it.
func TestValidForItsSign(t *testing.T) {
	small := api.Sign{{Name: "C", Arity: 2}}
	if !term.Valid(small, api.Term{0, -1, -2}) || term.Valid(small, api.Term{1, -1}) || term.Valid(small, api.Term{1}) {
		t.Error("Valid for a sign with one symbol")
	}
}

// 1.1
func TestDepth(t *testing.T) {
	tests := []struct {
		u     api.Term
		depth int
	}{
		{api.Term{-3}, 1}, {api.Term{2}, 1}, {api.Term{1, 2}, 2}, {api.Term{0, -1, 0, -2, -1}, 3},
		{api.Term{0, 1, 1, -1, -2}, 4}, {api.Term{3, 1, 1, 2, 2, 0, 2, -1}, 4}, {api.Term{3, 2, 1, 1, 1, 2, 2}, 5}, {sample.Tower(60), 60},
	}
	for _, test := range tests {
		if depth, e := term.Depth(sample.Sign(), test.u); depth != test.depth || e != api.OK {
			t.Errorf("Depth(%v) = %d, %d", test.u, depth, e)
		}
	}
}

// 1.1: a term is one deeper than the deepest of its arguments.
func TestDepthOfArguments(t *testing.T) {
	s := sample.Sign()
	for _, u := range terms() {
		want := 0
		for _, path := range paths(s, u) {
			want = max(want, len(path)+1)
		}
		if depth, e := term.Depth(s, u); depth != want || e != api.OK {
			t.Errorf("Depth(%v) = %d, %d", u, depth, e)
		}
	}
}

// 1.1
func TestVars(t *testing.T) {
	tests := []struct {
		u    api.Term
		vars []int
	}{
		{api.Term{2}, nil}, {api.Term{-12}, []int{11}}, {api.Term{0, -5, 0, -1, -5}, []int{4, 0}},
		{api.Term{3, -2, 0, -3, -2, -1}, []int{1, 2, 0}}, {api.Term{0, 2, 1, 2}, nil}, {sample.Tower(60), nil},
	}
	for _, test := range tests {
		if vars, e := term.Vars(sample.Sign(), test.u); !slices.Equal(vars, test.vars) || e != api.OK {
			t.Errorf("Vars(%v) = %v, %d", test.u, vars, e)
		}
	}
}

// 1.1
func TestCounts(t *testing.T) {
	tests := []struct {
		u      api.Term
		counts []int
	}{
		{api.Term{-1}, []int{0, 0, 0, 0}}, {api.Term{2}, []int{0, 0, 1, 0}}, {api.Term{0, -1, 0, -2, -1}, []int{2, 0, 0, 0}},
		{api.Term{3, 2, 1, -1, 0, 2, 1, -1}, []int{1, 2, 2, 1}}, {sample.Tower(60), []int{0, 59, 1, 0}},
	}
	for _, test := range tests {
		if counts, e := term.Counts(sample.Sign(), test.u); !slices.Equal(counts, test.counts) || e != api.OK {
			t.Errorf("Counts(%v) = %v, %d", test.u, counts, e)
		}
	}
}

// P1.5: symbols and places of variables add up to the size.
func TestCountsAddUp(t *testing.T) {
	s := sample.Sign()
	for _, u := range terms() {
		counts, e := term.Counts(s, u)
		vars, f := term.Vars(s, u)
		sum := 0
		for _, n := range counts {
			sum += n
		}
		for _, v := range vars {
			at, g := term.Paths(s, u, api.Term{-v - 1})
			if g != api.OK {
				t.Fatalf("Paths(%v, %d): %d", u, -v-1, g)
			}
			sum += len(at)
		}
		if e != api.OK || f != api.OK || sum != len(u) {
			t.Errorf("%v: counts %v, variables %v", u, counts, vars)
		}
	}
}

// 1.4
func TestCompare(t *testing.T) {
	ascending := []api.Term{
		{}, {math.MinInt}, {-13}, {-1}, {0}, {5}, {math.MaxInt},
		{math.MinInt, math.MaxInt}, {-2, 7}, {-1, -1}, {-1, 2}, {0, 0}, {math.MaxInt, math.MinInt}, {-1, -1, -1}, sample.Tower(60), sample.Tower(61),
	}
	for i, a := range ascending {
		for j, b := range ascending {
			want := 0
			if i < j {
				want = -1
			} else if i > j {
				want = 1
			}
			if got := term.Compare(a, b); got != want {
				t.Errorf("Compare(%v, %v) = %d", a, b, got)
			}
		}
	}
	if term.Compare(nil, api.Term{}) != 0 || term.Compare(api.Term{3, 1}, api.Term{3, 1}) != 0 {
		t.Error("Compare of equal lists")
	}
}

// P1.5: Compare is an order.
func TestCompareIsAnOrder(t *testing.T) {
	r := rand.New(rand.NewPCG(3, 4))
	all := append(terms(), sample.WrongTerms()...)
	for range 20000 {
		a, b, c := all[r.IntN(len(all))], all[r.IntN(len(all))], all[r.IntN(len(all))]
		if term.Compare(a, b) != -term.Compare(b, a) || (term.Compare(a, b) == 0) != slices.Equal(a, b) {
			t.Fatalf("Compare of %v and %v", a, b)
		}
		if term.Compare(a, b) <= 0 && term.Compare(b, c) <= 0 && term.Compare(a, c) > 0 {
			t.Fatalf("Compare of %v, %v and %v", a, b, c)
		}
	}
}
