package find_test

import (
	"math"
	"slices"
	"testing"

	"lemmary/api"
	"lemmary/find"
	"lemmary/sample"
)

// order is a shelf with its least base that is first, and its lattice.
type order struct {
	l       []api.Term
	base    []int
	lattice [][2]int
}

func orders() []order {
	return []order{
		{[]api.Term{{-4}}, []int{0}, nil},
		{shelf(), []int{0, 2}, nil},
		{[]api.Term{{2}, {-1}, {0, -1, -1}}, []int{1}, [][2]int{{1, 0}, {1, 2}}},
		{[]api.Term{{2}, {2}, {1, 2}, {2}}, []int{0, 2}, nil},
		{[]api.Term{{0, 2, 2}, {0, -3, -1}, {0, -1, -1}, {0, -2, -1}, {0, 2, -1}, {0, -7, -7}}, []int{1}, [][2]int{{1, 2}, {1, 4}, {2, 0}, {4, 0}}},
		{[]api.Term{{0, -1, -2}, {0, 1, -1, -2}, {0, -1, 1, -2}, {0, 1, -1, 1, -2}, {0, 1, -1, 1, -1}, {0, 1, 2, 1, 2}}, []int{0}, [][2]int{{0, 1}, {0, 2}, {1, 3}, {2, 3}, {3, 4}, {4, 5}}},
		{[]api.Term{{1, 1, 1, 2}, {1, 1, -1}, {2}, {1, -5}, {1, 1, 2}, {1, -1}}, []int{2, 3}, [][2]int{{1, 0}, {1, 4}, {3, 1}}},
		{[]api.Term{{0, 2, 2}, {1, 2}, {0, -1, -1}, {1, -2}, {1, 2}, {-3}}, []int{5}, [][2]int{{2, 0}, {3, 1}, {5, 2}, {5, 3}}},
	}
}

// 5.3
func TestBaseAndLattice(t *testing.T) {
	for _, x := range orders() {
		if got, e := find.Base(sample.Sign(), x.l); e != api.OK || !slices.Equal(got, x.base) {
			t.Errorf("Base(%v) = %v, %d; want %v", x.l, got, e, x.base)
		}
		if got, e := find.Lattice(sample.Sign(), x.l); e != api.OK || !slices.Equal(got, x.lattice) {
			t.Errorf("Lattice(%v) = %v, %d; want %v", x.l, got, e, x.lattice)
		}
	}
}

// 5.3: a full shelf, each statement of which is an instance of the next one.
func TestFullShelf(t *testing.T) {
	l := []api.Term{sample.Tower(60)}
	pairs := [][2]int{}
	above := []int{}
	for i := range 59 {
		l = append(l, append(slices.Repeat(api.Term{1}, 58-i), -1))
		pairs = append(pairs, [2]int{i + 1, i})
		above = append(above, i+1)
	}
	if got, e := find.Base(short(), l); e != api.OK || !slices.Equal(got, []int{59}) || !find.IsBase(short(), l, got) {
		t.Errorf("Base = %v, %d", got, e)
	}
	if got, e := find.Lattice(short(), l); e != api.OK || !slices.Equal(got, pairs) {
		t.Errorf("Lattice = %v, %d", got, e)
	}
	if got, e := find.Over(short(), l, 0); e != api.OK || !slices.Equal(got, above) {
		t.Errorf("Over = %v, %d", got, e)
	}
	all := append([]int{0}, above...)
	if !find.IsBase(short(), l, all) || find.IsBase(short(), l, all[:59]) || find.IsBase(short(), l, append(all, 60)) {
		t.Error("IsBase of all indexes")
	}
}

// bases calls visit with all strictly ascending lists of indexes of so many
// statements, shorter ones first, of equal length in the order of lists.
func bases(count int, visit func(b []int)) {
	for size := range count + 1 {
		var grow func(b []int, from int)
		grow = func(b []int, from int) {
			if len(b) == size {
				visit(slices.Clone(b))
				return
			}
			for i := from; i < count; i++ {
				grow(append(b, i), i+1)
			}
		}
		grow(nil, 0)
	}
}

// isBase tells by the chapter's words whether a set of indexes is a base.
func isBase(s api.Sign, l []api.Term, b []int) bool {
	for _, t := range l {
		if !slices.ContainsFunc(b, func(i int) bool { return sample.Instance(s, l[i], t) }) {
			return false
		}
	}
	return true
}

// 5.3, P5.4: of all sets of indexes of a shelf, IsBase tells the bases, and
// Base is the first one of them; each of them has one for each of Base.
func TestBaseOfRandomShelves(t *testing.T) {
	sizes := map[int]int{}
	shelves(200, 7, func(s api.Sign, l []api.Term, q api.Term) {
		least, e := find.Base(s, l)
		if e != api.OK || !slices.IsSorted(least) {
			t.Fatalf("Base(%v) = %v, %d", l, least, e)
		}
		var first []int
		bases(len(l), func(b []int) {
			is := isBase(s, l, b)
			if find.IsBase(s, l, b) != is {
				t.Errorf("IsBase(%v, %v) is not %v", l, b, is)
			}
			if is && first == nil {
				first = b
			}
			for _, i := range least {
				if is && !slices.ContainsFunc(b, func(k int) bool { return alike(s, l[i], l[k]) }) {
					t.Errorf("Base(%v) = %v, but there is the base %v", l, least, b)
				}
			}
		})
		if !slices.Equal(least, first) {
			t.Errorf("Base(%v) = %v; want %v", l, least, first)
		}
		sizes[len(least)]++
	})
	if sizes[1] < 20 || sizes[2] < 20 || sizes[3] < 10 {
		t.Errorf("%v", sizes)
	}
}

// P5.4: no statement of a least base is an instance of another one of it.
func TestBaseHasNoInstances(t *testing.T) {
	shelves(300, 60, func(s api.Sign, l []api.Term, q api.Term) {
		base, e := find.Base(s, l)
		if e != api.OK || !find.IsBase(s, l, base) || !isBase(s, l, base) {
			t.Errorf("Base(%v) = %v, %d", l, base, e)
		}
		for _, i := range base {
			for _, k := range base {
				if i != k && sample.Instance(s, l[i], l[k]) {
					t.Errorf("Base(%v) = %v", l, base)
				}
			}
		}
	})
}

// 5.3: lists that are no bases, and a base that is not least.
func TestIsBase(t *testing.T) {
	s, l := sample.Sign(), shelf()
	for _, b := range [][]int{{0, 2}, {1, 2}, {0, 1, 2}} {
		if !find.IsBase(s, l, b) {
			t.Errorf("%v is no base", b)
		}
	}
	wrong := [][]int{nil, {}, {0}, {2}, {0, 1}, {2, 0}, {0, 0, 2}, {0, 2, 2}, {0, 2, 1}, {1, 0, 2}, {0, 1, 2, 3}, {-1, 0, 2}, {0, 2, 3}, {0, 2, -1}, {0, 2, math.MaxInt}, {math.MinInt, 0, 2}, {math.MaxInt, math.MinInt}, make([]int, 1000000)}
	for _, b := range wrong {
		if find.IsBase(s, l, b) {
			t.Errorf("%d numbers are a base", len(b))
		}
	}
}

// 5.3
func TestOver(t *testing.T) {
	l := []api.Term{{0, 2, 2}, {0, -3, -1}, {0, -1, -1}, {0, -2, -1}, {0, 2, -1}, {0, -7, -7}, {2}, {0, 2, 2}}
	want := [][]int{{1, 2, 3, 4, 5}, nil, {1, 3}, nil, {1, 3}, {1, 3}, nil, {1, 2, 3, 4, 5}}
	for i := range l {
		if got, e := find.Over(sample.Sign(), l, i); e != api.OK || !slices.Equal(got, want[i]) {
			t.Errorf("Over(%d) = %v, %d", i, got, e)
		}
	}
	for _, i := range []int{-1, 8, 60, math.MinInt, math.MaxInt} {
		if got, e := find.Over(sample.Sign(), l, i); e != api.ErrName || len(got) > 0 {
			t.Errorf("Over(%d) = %v, %d", i, got, e)
		}
		for _, wrong := range [][]api.Term{nil, {{0}}, append(slices.Clone(l), api.Term{9}), slices.Repeat(l, 8)} {
			if got, e := find.Over(sample.Sign(), wrong, i); e != api.ErrInvalid || len(got) > 0 {
				t.Errorf("Over(%d) of a wrong shelf = %v, %d", i, got, e)
			}
		}
	}
}

// 5.3: what is over a statement, and the lattice, by the chapter's words.
func TestOrderOfRandomShelves(t *testing.T) {
	pairs := 0
	shelves(300, 20, func(s api.Sign, l []api.Term, q api.Term) {
		want := lattice(s, l)
		got, e := find.Lattice(s, l)
		if e != api.OK || !slices.Equal(got, want) {
			t.Errorf("Lattice(%v) = %v, %d; want %v", l, got, e, want)
		}
		pairs += len(got)
		for i, u := range l {
			want := picked(l, func(v api.Term) bool { return sample.Instance(s, v, u) && !alike(s, v, u) })
			if got, e := find.Over(s, l, i); e != api.OK || !slices.Equal(got, want) {
				t.Errorf("Over(%v, %d) = %v, %d", l, i, got, e)
			}
		}
	})
	if pairs < 500 {
		t.Errorf("only %d pairs", pairs)
	}
}

// lattice is the chapter's words: it looks for a statement in between among all
// of them, and not only among the first ones of groups.
func lattice(s api.Sign, l []api.Term) [][2]int {
	over := func(i, k int) bool { return sample.Instance(s, l[i], l[k]) && !sample.Instance(s, l[k], l[i]) }
	first := func(i int) bool {
		return !slices.ContainsFunc(l[:i], func(u api.Term) bool { return alike(s, u, l[i]) })
	}
	pairs := [][2]int{}
	for i := range l {
		for j := range l {
			between := false
			for k := range l {
				between = between || over(i, k) && over(k, j)
			}
			if over(i, j) && !between && first(i) && first(j) {
				pairs = append(pairs, [2]int{i, j})
			}
		}
	}
	return pairs
}
