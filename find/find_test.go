package find_test

import (
	"math"
	"slices"
	"testing"

	"lemmary/api"
	"lemmary/find"
	"lemmary/sample"
	"lemmary/unify"
)

// 5.1
func TestValid(t *testing.T) {
	s := sample.Sign()
	for _, l := range [][]api.Term{{{-5}}, {{2}, {2}}, shelf(), slices.Repeat([]api.Term{{0, -3, -1}}, 60), {sample.Tower(60)}} {
		if !find.Valid(s, l) {
			t.Errorf("%v is not valid", l)
		}
	}
	for _, l := range [][]api.Term{nil, {}, slices.Repeat([]api.Term{{2}}, 61), slices.Repeat([]api.Term{{2}}, 100000)} {
		if find.Valid(s, l) {
			t.Errorf("a shelf of %d statements is valid", len(l))
		}
	}
	for _, u := range sample.WrongTerms() {
		for _, l := range [][]api.Term{{u}, {u, {2}}, {{2}, u}, {{2}, u, {2}}} {
			if find.Valid(s, l) {
				t.Errorf("%v is valid", l)
			}
		}
	}
	for _, wrong := range sample.WrongSigns() {
		if find.Valid(wrong, []api.Term{{-1}}) {
			t.Errorf("the sign %v is valid", wrong)
		}
	}
	for _, right := range sample.RightSigns() {
		if !find.Valid(right, []api.Term{{0, -1, -1}}) {
			t.Errorf("the sign %v is not valid", right)
		}
	}
}

// search is a function of 5.1 or 5.2 with what it asks, told in another way.
type search struct {
	name string
	do   func(s api.Sign, l []api.Term, q api.Term) ([]int, api.Errno)
	asks func(s api.Sign, t, q api.Term) bool
}

func searches() []search {
	return []search{
		{"Meeting", find.Meeting, meets},
		{"Instances", find.Instances, func(s api.Sign, t, q api.Term) bool { return sample.Instance(s, q, t) }},
		{"Generals", find.Generals, sample.Instance},
		{"Alike", find.Alike, alike},
		{"Shaped", find.Shaped, func(s api.Sign, t, q api.Term) bool { return sameShape(t, q) }},
		{"Having", find.Having, having},
	}
}

// 5.1, 5.2: what each search finds, in the order of searches.
func TestSearches(t *testing.T) {
	l := []api.Term{{0, -4, -4}, {-9}, {0, -2, 1, -1}, {0, 1, -1, 1, -1}, {2}, {0, -1, -1}, {0, 2, 1, 2}, {1, 0, -3, 1, -3}, {3, 2, -1, -1}}
	tests := []struct {
		q    api.Term
		want [][]int
	}{
		{api.Term{-3}, [][]int{{0, 1, 2, 3, 4, 5, 6, 7, 8}, {0, 1, 2, 3, 4, 5, 6, 7, 8}, {1}, {1}, {1}, {0, 1, 2, 3, 4, 5, 6, 7, 8}}},
		{api.Term{0, -1, -1}, [][]int{{0, 1, 2, 3, 5}, {0, 3, 5}, {0, 1, 5}, {0, 5}, {0, 5}, {0, 3, 5}}},
		{api.Term{0, -1, -2}, [][]int{{0, 1, 2, 3, 5, 6}, {0, 2, 3, 5, 6}, {1}, {}, {0, 5}, {0, 2, 3, 5, 6, 7}}},
		{api.Term{0, -7, 1, -3}, [][]int{{0, 1, 2, 3, 5, 6}, {2, 3, 6}, {1, 2}, {2}, {2}, {2, 3, 6, 7}}},
		{api.Term{0, -3, 1, -3}, [][]int{{1, 2, 6}, {6}, {1, 2}, {}, {2}, {6, 7}}},
		{api.Term{2}, [][]int{{1, 4}, {4}, {1, 4}, {4}, {4}, {4, 6, 8}}},
		{api.Term{1, -2}, [][]int{{1, 7}, {7}, {1}, {}, {}, {2, 3, 6, 7}}},
		{api.Term{3, -1, 2, 2}, [][]int{{1, 8}, {}, {1}, {}, {}, {}}},
		{api.Term{3, 2, -5, -6}, [][]int{{1, 8}, {8}, {1}, {}, {8}, {8}}},
		{api.Term{1, 2}, [][]int{{1}, {}, {1}, {}, {}, {6}}},
	}
	for _, test := range tests {
		for i, search := range searches() {
			if got, e := search.do(sample.Sign(), l, test.q); e != api.OK || !slices.Equal(got, test.want[i]) {
				t.Errorf("%s of %v = %v, %d; want %v", search.name, test.q, got, e, test.want[i])
			}
		}
	}
}

// 5.1, 5.2: with random shelves, each search finds just what it asks for.
func TestSearchesOfRandomShelves(t *testing.T) {
	found := map[string]int{}
	shelves(1500, 10, func(s api.Sign, l []api.Term, q api.Term) {
		for _, search := range searches() {
			want := picked(l, func(u api.Term) bool { return search.asks(s, u, q) })
			got, e := search.do(s, l, q)
			if e != api.OK || !slices.Equal(got, want) {
				t.Errorf("%s of %v in %v = %v, %d; want %v", search.name, q, l, got, e, want)
			}
			if len(got) > 0 && len(got) < len(l) {
				found[search.name]++
			}
		}
	})
	for _, search := range searches() {
		if found[search.name] < 200 {
			t.Errorf("%s found some only %d times", search.name, found[search.name])
		}
	}
}

// 5.1: however great the meet: one of more than 60 numbers, and one of more
// than 12 variables.
func TestMeetingOfGreatMeets(t *testing.T) {
	s := sample.Sign()
	twelve := sample.Chain(sample.Vars(0, 11)...)
	for _, x := range []struct{ u, q api.Term }{
		{api.Term{3, -1, -1, -1}, slices.Concat(api.Term{3}, sample.Tower(30), api.Term{-1, -2})},
		{api.Term{0, -1, 0, -2, -3}, slices.Concat(api.Term{0}, twelve, api.Term{-1})},
		{sample.Tower(60), append(slices.Repeat(api.Term{1}, 59), -12)},
	} {
		l := []api.Term{x.q, {2}, x.u}
		if got, e := find.Meeting(s, l, x.u); e != api.OK || !slices.Equal(got, []int{0, 2}) {
			t.Errorf("Meeting of %v with %v = %v, %d", x.u, x.q, got, e)
		}
		if got, e := find.Meeting(s, l, x.q); e != api.OK || !slices.Equal(got, []int{0, 2}) {
			t.Errorf("Meeting of %v with %v = %v, %d", x.q, x.u, got, e)
		}
	}
	if _, e := unify.Meet(s, api.Term{0, -1, 0, -2, -3}, slices.Concat(api.Term{0}, twelve, api.Term{-1})); e != api.ErrLimit {
		t.Errorf("the meet is not great: %d", e)
	}
}

// 5.1, 5.2: a full shelf, all statements of which are found.
func TestSearchesOfFullShelf(t *testing.T) {
	l := slices.Repeat([]api.Term{{0, -3, -1}}, 60)
	for _, search := range searches() {
		if got, e := search.do(short(), l, api.Term{0, -1, -2}); e != api.OK || len(got) != 60 || got[0] != 0 || got[59] != 59 {
			t.Errorf("%s = %v, %d", search.name, got, e)
		}
	}
}

// P5.2
func TestSearchesAmongThemselves(t *testing.T) {
	shelves(1000, 12, func(s api.Sign, l []api.Term, q api.Term) {
		meeting, e1 := find.Meeting(s, l, q)
		instances, e2 := find.Instances(s, l, q)
		generals, e3 := find.Generals(s, l, q)
		same, e4 := find.Alike(s, l, q)
		shaped, e5 := find.Shaped(s, l, q)
		if e1+e2+e3+e4+e5 != api.OK {
			t.Fatalf("%v in %v: %d, %d, %d, %d, %d", q, l, e1, e2, e3, e4, e5)
		}
		for i := range l {
			below, above := slices.Contains(instances, i), slices.Contains(generals, i)
			if (below || above) && !slices.Contains(meeting, i) || (below && above) != slices.Contains(same, i) || below && above && !slices.Contains(shaped, i) {
				t.Errorf("%v in %v: %v, %v, %v, %v, %v", q, l, meeting, instances, generals, same, shaped)
			}
		}
	})
}

// 5.2
func TestWith(t *testing.T) {
	l := []api.Term{{0, -1, -1}, {1, 2}, {-4}, {2}, {0, 1, -1, 2}, {3, 2, 2, 0, -1, -2}}
	tests := []struct{ symbols, want []int }{
		{nil, []int{0, 1, 2, 3, 4, 5}}, {[]int{}, []int{0, 1, 2, 3, 4, 5}}, {[]int{0}, []int{0, 4, 5}}, {[]int{1}, []int{1, 4}}, {[]int{2}, []int{1, 3, 4, 5}}, {[]int{3}, []int{5}},
		{[]int{0, 1}, []int{4}}, {[]int{2, 1}, []int{1, 4}}, {[]int{1, 1, 2, 1}, []int{1, 4}}, {[]int{3, 0, 2}, []int{5}}, {[]int{0, 1, 2, 3}, nil}, {[]int{3, 1}, nil}, {[]int{2, 0}, []int{4, 5}},
		{slices.Repeat([]int{2, 0}, 1000000), []int{4, 5}},
	}
	for _, test := range tests {
		if got, e := find.With(sample.Sign(), l, test.symbols); e != api.OK || !slices.Equal(got, test.want) {
			t.Errorf("With of %d symbols = %v, %d; want %v", len(test.symbols), got, e, test.want)
		}
	}
}

// 5.2: symbols that there are not, also behind others; a shelf that is not
// valid comes ahead of them.
func TestWithNoSuchSymbol(t *testing.T) {
	for _, symbol := range []int{-1, 4, 12, math.MinInt, math.MaxInt} {
		for _, symbols := range [][]int{{symbol}, {0, symbol}, {symbol, 0}, {1, symbol, 2}} {
			if got, e := find.With(sample.Sign(), []api.Term{{0, 1, -1, 2}, {-1}}, symbols); e != api.ErrName || len(got) > 0 {
				t.Errorf("With(%v) = %v, %d", symbols, got, e)
			}
			if got, e := find.With(sample.Sign(), []api.Term{{-1}, {0}}, symbols); e != api.ErrInvalid || len(got) > 0 {
				t.Errorf("With(%v) of a wrong shelf = %v, %d", symbols, got, e)
			}
		}
	}
	if got, e := find.With(short(), []api.Term{{-1}}, []int{3}); e != api.ErrName || len(got) > 0 {
		t.Errorf("With of another sign's symbol = %v, %d", got, e)
	}
}

// 5.2: With of symbols is what With of each of them has.
func TestWithOfRandomShelves(t *testing.T) {
	var d sample.Dice
	shelves(500, 12, func(s api.Sign, l []api.Term, q api.Term) {
		symbols := []int{}
		for range d.Roll(5) {
			symbols = append(symbols, d.Roll(len(s)))
		}
		want := picked(l, func(u api.Term) bool {
			return !slices.ContainsFunc(symbols, func(symbol int) bool { return !slices.Contains(u, symbol) })
		})
		if got, e := find.With(s, l, symbols); e != api.OK || !slices.Equal(got, want) {
			t.Errorf("With(%v, %v) = %v, %d", l, symbols, got, e)
		}
	})
}
