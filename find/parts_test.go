package find_test

import (
	"slices"
	"testing"

	"lemmary/api"
	"lemmary/find"
	"lemmary/sample"
)

// 5.2
func TestWhere(t *testing.T) {
	u := api.Term{3, 2, 1, -1, 0, 0, 2, 1, -1, 0, -2, -2}
	tests := []struct {
		q    api.Term
		want [][]int
	}{
		{api.Term{-8}, [][]int{{}, {0}, {1}, {1, 0}, {2}, {2, 0}, {2, 0, 0}, {2, 0, 1}, {2, 0, 1, 0}, {2, 1}, {2, 1, 0}, {2, 1, 1}}},
		{u, [][]int{{}}}, {api.Term{3, -1, -2, -3}, [][]int{{}}}, {api.Term{3, -1, -2, -2}, nil}, {api.Term{3, -1, -1, -2}, nil},
		{api.Term{2}, [][]int{{0}, {2, 0, 0}}}, {api.Term{1, -5}, [][]int{{1}, {2, 0, 1}}}, {api.Term{1, 2}, nil}, {api.Term{1, 1, -1}, nil},
		{api.Term{0, -4, -3}, [][]int{{2}, {2, 0}, {2, 1}}}, {api.Term{0, -4, -4}, [][]int{{2, 1}}}, {api.Term{0, -1, 1, -1}, nil}, {api.Term{0, -1, 1, -2}, [][]int{{2, 0}}},
		{api.Term{0, 0, -1, -2, 0, -3, -4}, [][]int{{2}}}, {api.Term{0, -1, 0, -2, -3}, [][]int{{2}}},
	}
	for _, test := range tests {
		if got, e := find.Where(sample.Sign(), u, test.q); e != api.OK || !sameLists(got, test.want) {
			t.Errorf("Where(%v) = %v, %d; want %v", test.q, got, e, test.want)
		}
	}
	if got, e := find.Where(sample.Sign(), api.Term{-3}, api.Term{-1}); e != api.OK || !sameLists(got, [][]int{{}}) {
		t.Errorf("Where of variables = %v, %d", got, e)
	}
	if got, e := find.Where(sample.Sign(), api.Term{-3}, api.Term{2}); e != api.OK || len(got) > 0 {
		t.Errorf("Where of a variable = %v, %d", got, e)
	}
}

// 5.2: a part as deep as a term may be, and a term of as many parts.
func TestWhereOfGreatTerms(t *testing.T) {
	s := sample.Sign()
	got, e := find.Where(s, sample.Tower(60), api.Term{-1})
	if e != api.OK || len(got) != 60 {
		t.Fatalf("Where of a tower: %d paths, %d", len(got), e)
	}
	for depth, path := range got {
		if !slices.Equal(path, make([]int, depth)) {
			t.Errorf("the path %d is %v", depth, path)
		}
	}
	if got, e := find.Where(s, sample.Tower(60), api.Term{2}); e != api.OK || !sameLists(got, [][]int{make([]int, 59)}) {
		t.Errorf("Where of a tower's top = %v, %d", got, e)
	}
	wide := sample.Chain(slices.Repeat([]api.Term{{2}}, 30)...)
	if got, e := find.Where(s, wide, api.Term{2}); e != api.OK || len(got) != 30 {
		t.Errorf("Where of a chain = %v, %d", got, e)
	}
}

// 5.2, P5.3: against another way; a statement is Having just if Where is not
// empty, and an instance has the question at the empty path.
func TestWhereOfRandomShelves(t *testing.T) {
	some := 0
	shelves(1000, 8, func(s api.Sign, l []api.Term, q api.Term) {
		having, e1 := find.Having(s, l, q)
		instances, e2 := find.Instances(s, l, q)
		for i, u := range l {
			got, e := find.Where(s, u, q)
			if e1 != api.OK || e2 != api.OK || e != api.OK || !sameLists(got, where(s, u, q)) {
				t.Errorf("Where(%v, %v) = %v, %d", u, q, got, e)
			}
			if (len(got) > 0) != slices.Contains(having, i) || (len(got) > 0 && len(got[0]) == 0) != slices.Contains(instances, i) {
				t.Errorf("Where(%v, %v) = %v, but %v and %v", u, q, got, having, instances)
			}
			if len(got) > 1 {
				some++
			}
		}
	})
	if some < 500 {
		t.Errorf("only %d terms have a question several times", some)
	}
}
