package find_test

import (
	"slices"
	"testing"

	"lemmary/api"
	"lemmary/find"
	"lemmary/sample"
	"lemmary/term"
	"lemmary/unify"
)

// 5.2
func TestCloseness(t *testing.T) {
	tests := []struct {
		a, b api.Term
		want int
	}{
		{api.Term{0, 1, -1, -2}, api.Term{0, 1, -1, 1, -1}, 2}, {api.Term{-1}, api.Term{-1}, 0}, {api.Term{-1}, api.Term{2}, 0}, {api.Term{2}, api.Term{2}, 1}, {api.Term{2}, api.Term{1, 2}, 0},
		{api.Term{0, 2, 2}, api.Term{0, 2, 2}, 3}, {api.Term{0, -1, -1}, api.Term{0, -1, -2}, 1}, {api.Term{0, 2, -1}, api.Term{0, -1, 2}, 1}, {api.Term{0, 1, 2, 2}, api.Term{0, 0, 2, 2, 2}, 2},
		{api.Term{1, 0, 2, 2}, api.Term{0, 2, 2}, 0}, {api.Term{3, 1, 2, 1, -1, 1, 1, 2}, api.Term{3, 1, -1, 1, 2, 1, 2}, 4}, {sample.Tower(60), sample.Tower(60), 60}, {sample.Tower(60), sample.Tower(59), 58},
		{sample.Tower(60), api.Term{-1}, 0}, {sample.K(), sample.S(), 2}, {api.Term{0, -4, 0, -2, -4}, sample.K(), 2},
	}
	for _, test := range tests {
		for _, pair := range [][2]api.Term{{test.a, test.b}, {test.b, test.a}} {
			if got, e := find.Closeness(sample.Sign(), pair[0], pair[1]); e != api.OK || got != test.want {
				t.Errorf("Closeness(%v, %v) = %d, %d; want %d", pair[0], pair[1], got, e, test.want)
			}
		}
	}
}

// 5.2: however many variables the join has.
func TestClosenessOfManyVariables(t *testing.T) {
	s := sample.Sign()
	for last := range 5 {
		a := sample.Chain(append(sample.Vars(0, 11), sample.Vars(0, last)...)...)
		b := sample.Chain(append(sample.Vars(0, 11), slices.Repeat([]api.Term{{2}}, last+1)...)...)
		if _, e := unify.Join(s, a, b); e != api.ErrLimit {
			t.Errorf("Join with %d variables: %d", 13+last, e)
		}
		if got, e := find.Closeness(s, a, b); e != api.OK || got != 12+last {
			t.Errorf("Closeness with %d variables = %d, %d", 13+last, got, e)
		}
		if got, e := find.Ranked(s, []api.Term{{0, -1, -2}, b, {0, -1, 0, -1, -1}}, a); e != api.OK || !slices.Equal(got, []int{1, 2, 0}) {
			t.Errorf("Ranked with %d variables = %v, %d", 13+last, got, e)
		}
	}
}

// closeness is another way: the symbols at paths on which, from the top down,
// both terms have the same ones.
func closeness(s api.Sign, a, b api.Term) int {
	n := 0
	for _, path := range paths(s, a) {
		same := true
		for i := range len(path) + 1 {
			x, _ := term.At(s, a, path[:i])
			y, e := term.At(s, b, path[:i])
			same = same && e == api.OK && x[0] == y[0] && x[0] >= 0
		}
		if same {
			n++
		}
	}
	return n
}

// symbols returns how many symbols a term has.
func symbols(t api.Term) int {
	n := 0
	for _, x := range t {
		if x >= 0 {
			n++
		}
	}
	return n
}

// 5.2, P5.6: against another way, and against the join where there is one.
func TestClosenessOfRandomShelves(t *testing.T) {
	shelves(1000, 8, func(s api.Sign, l []api.Term, q api.Term) {
		for _, u := range l {
			got, e := find.Closeness(s, u, q)
			back, f := find.Closeness(s, q, u)
			if e != api.OK || f != api.OK || got != back || got != closeness(s, u, q) {
				t.Errorf("Closeness(%v, %v) = %d, %d; %d, %d", u, q, got, e, back, f)
			}
			if join, e := unify.Join(s, u, q); e == api.OK && got != symbols(join) {
				t.Errorf("Closeness(%v, %v) = %d, but the join is %v", u, q, got, join)
			}
			if got > min(symbols(u), symbols(q)) || sample.Instance(s, q, u) && got != symbols(q) {
				t.Errorf("Closeness(%v, %v) = %d", u, q, got)
			}
		}
	})
}

// 5.2: the closer one first, then the smaller one, then the lesser index.
func TestRanked(t *testing.T) {
	l := []api.Term{{2}, {0, -1, 1, -1}, {0, -1, -2}, {0, 1, -1, -2}, {-3}, {0, 1, 2, -2}, {0, -4, -4}, {0, 1, -5, -5}, {1, 0, 1, 2, -1}}
	tests := []struct {
		q    api.Term
		want []int
	}{
		{api.Term{0, 1, 2, -1}, []int{5, 3, 7, 2, 6, 1, 0, 4, 8}}, {api.Term{0, 1, -1, -1}, []int{3, 5, 7, 2, 6, 1, 0, 4, 8}}, {api.Term{-1}, []int{0, 4, 2, 6, 1, 3, 5, 7, 8}},
		{api.Term{2}, []int{0, 4, 2, 6, 1, 3, 5, 7, 8}}, {api.Term{1, 0, -1, 2}, []int{8, 0, 4, 2, 6, 1, 3, 5, 7}}, {api.Term{0, -1, 1, 1, -1}, []int{1, 2, 6, 3, 5, 7, 0, 4, 8}},
	}
	for _, test := range tests {
		if got, e := find.Ranked(sample.Sign(), l, test.q); e != api.OK || !slices.Equal(got, test.want) {
			t.Errorf("Ranked(%v) = %v, %d; want %v", test.q, got, e, test.want)
		}
	}
	if got, e := find.Ranked(short(), slices.Repeat([]api.Term{{2}}, 60), api.Term{-1}); e != api.OK || !slices.IsSorted(got) || len(got) != 60 {
		t.Errorf("Ranked of equal statements = %v, %d", got, e)
	}
}

// 5.2
func TestRankedOfRandomShelves(t *testing.T) {
	shelves(500, 60, func(s api.Sign, l []api.Term, q api.Term) {
		got, e := find.Ranked(s, l, q)
		if sorted := slices.Sorted(slices.Values(got)); e != api.OK || len(got) != len(l) || sorted[0] != 0 || len(slices.Compact(sorted)) != len(l) {
			t.Fatalf("Ranked(%v, %v) = %v, %d", l, q, got, e)
		}
		for k := range len(got) - 1 {
			a, b := l[got[k]], l[got[k+1]]
			near, far := closeness(s, a, q), closeness(s, b, q)
			if near < far || near == far && len(a) > len(b) || near == far && len(a) == len(b) && got[k] > got[k+1] {
				t.Errorf("Ranked(%v, %v) = %v", l, q, got)
			}
		}
	})
}
