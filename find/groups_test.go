package find_test

import (
	"slices"
	"testing"

	"lemmary/api"
	"lemmary/find"
	"lemmary/sample"
	"lemmary/term"
)

// 5.3
func TestGroups(t *testing.T) {
	tests := []struct {
		l              []api.Term
		groups, shapes [][]int
	}{
		{[]api.Term{{-4}}, [][]int{{0}}, [][]int{{0}}},
		{shelf(), [][]int{{0, 1}, {2}}, [][]int{{0, 1}, {2}}},
		{[]api.Term{{0, -1, -2}, {2}, {0, -3, -3}, {0, -7, -1}, {1, 2}, {2}, {0, 2, -1}, {0, -2, -2}}, [][]int{{0, 3}, {1, 5}, {2, 7}, {4}, {6}}, [][]int{{0, 2, 3, 7}, {1, 5}, {4}, {6}}},
		{[]api.Term{{1, -1}, {-1}, {1, -2}, {-2}, {1, 1, -1}}, [][]int{{0, 2}, {1, 3}, {4}}, [][]int{{0, 2}, {1, 3}, {4}}},
		{[]api.Term{{0, -1, 2}, {0, 2, -1}, {0, 2, -5}}, [][]int{{0}, {1, 2}}, [][]int{{0}, {1, 2}}},
		{[]api.Term{{0, 0, 0, 0, 0, -1, -1, -1, -1, -1, -1}, {0, 0, -1, -1, 0, -1, -1}, {0, -1, -1}, {0, 0, -2, -2, 0, -2, -2}}, [][]int{{0}, {1, 3}, {2}}, [][]int{{0}, {1, 3}, {2}}},
	}
	for _, test := range tests {
		if groups, e := find.Groups(sample.Sign(), test.l); e != api.OK || !sameLists(groups, test.groups) {
			t.Errorf("Groups(%v) = %v, %d", test.l, groups, e)
		}
		if shapes, e := find.Shapes(sample.Sign(), test.l); e != api.OK || !sameLists(shapes, test.shapes) {
			t.Errorf("Shapes(%v) = %v, %d", test.l, shapes, e)
		}
	}
}

// 5.3: a full shelf of statements that are all alike, and of such as are none.
func TestGroupsOfFullShelf(t *testing.T) {
	same := slices.Repeat([]api.Term{sample.Tower(60)}, 60)
	other := []api.Term{}
	for size := range 60 {
		other = append(other, sample.Tower(size+1))
	}
	for _, groups := range []func(s api.Sign, l []api.Term) ([][]int, api.Errno){find.Groups, find.Shapes} {
		if got, e := groups(short(), same); e != api.OK || len(got) != 1 || len(got[0]) != 60 || !slices.IsSorted(got[0]) {
			t.Errorf("one group: %v, %d", got, e)
		}
		if got, e := groups(short(), other); e != api.OK || len(got) != 60 || got[59][0] != 59 {
			t.Errorf("60 groups: %v, %d", got, e)
		}
	}
}

// grouped is another way: each statement is held against the first one of each
// group.
func grouped(l []api.Term, same func(a, b api.Term) bool) [][]int {
	groups := [][]int{}
	for i, t := range l {
		g := slices.IndexFunc(groups, func(group []int) bool { return same(l[group[0]], t) })
		if g < 0 {
			groups = append(groups, []int{i})
		} else {
			groups[g] = append(groups[g], i)
		}
	}
	return groups
}

// 5.3, P5.5: each group lies in one of shapes.
func TestGroupsOfRandomShelves(t *testing.T) {
	some := 0
	shelves(1000, 30, func(s api.Sign, l []api.Term, q api.Term) {
		groups, e := find.Groups(s, l)
		shapes, f := find.Shapes(s, l)
		want := grouped(l, func(a, b api.Term) bool { return alike(s, a, b) })
		if e != api.OK || !sameLists(groups, want) || f != api.OK || !sameLists(shapes, grouped(l, sameShape)) {
			t.Errorf("%v has the groups %v, %d, and the shapes %v, %d", l, groups, e, shapes, f)
		}
		count := 0
		for _, group := range groups {
			count += len(group)
			if !slices.ContainsFunc(shapes, func(shape []int) bool { return contains(shape, group) }) {
				t.Errorf("%v has the group %v, but the shapes %v", l, group, shapes)
			}
		}
		if count != len(l) {
			t.Errorf("%v has the groups %v", l, groups)
		}
		if len(groups) > 1 && len(groups) < len(l) {
			some++
		}
	})
	if some < 500 {
		t.Errorf("only %d shelves have several groups", some)
	}
}

func contains(list, part []int) bool {
	return !slices.ContainsFunc(part, func(i int) bool { return !slices.Contains(list, i) })
}

// P5.5: a permuted shelf has the same groups, permuted.
func TestGroupsOfPermutedShelf(t *testing.T) {
	var d sample.Dice
	shelves(300, 20, func(s api.Sign, l []api.Term, q api.Term) {
		order := make([]int, len(l))
		for i := range order {
			order[i] = i
		}
		sample.Shuffle(&d, order)
		permuted := make([]api.Term, len(l))
		for i, from := range order {
			permuted[i] = l[from]
		}
		for _, groups := range []func(s api.Sign, l []api.Term) ([][]int, api.Errno){find.Groups, find.Shapes} {
			want, e := groups(s, l)
			got, f := groups(s, permuted)
			for _, group := range got {
				for i, k := range group {
					group[i] = order[k]
				}
				slices.Sort(group)
			}
			slices.SortFunc(got, slices.Compare)
			if e != api.OK || f != api.OK || !sameLists(got, want) {
				t.Errorf("%v has the groups %v, permuted %v", l, want, got)
			}
		}
	})
}

// 5.3
func TestSorted(t *testing.T) {
	tests := []struct{ l, want []api.Term }{
		{[]api.Term{{-9}}, []api.Term{{-1}}}, {shelf(), []api.Term{{0, -1, -1}, {0, 1, -1, -2}}},
		{[]api.Term{{1, 2}, {0, -2, -1}, {2}, {0, -4, -4}, {1, 2}, {-2}, {0, -1, -2}, {-1}, {1, -3}}, []api.Term{{-1}, {2}, {1, -1}, {1, 2}, {0, -1, -2}, {0, -1, -1}}},
		{slices.Repeat([]api.Term{{0, -5, 2}}, 60), []api.Term{{0, -1, 2}}},
	}
	for _, test := range tests {
		if got, e := find.Sorted(sample.Sign(), test.l); e != api.OK || !sameTerms(got, test.want) {
			t.Errorf("Sorted(%v) = %v, %d", test.l, got, e)
		}
	}
}

// 5.3: the forms ascend, each is one of a statement, and each statement has one.
func TestSortedOfRandomShelves(t *testing.T) {
	shelves(500, 30, func(s api.Sign, l []api.Term, q api.Term) {
		got, e := find.Sorted(s, l)
		for i, form := range got {
			if !term.IsCanonical(s, form) || i > 0 && term.Compare(got[i-1], form) >= 0 || !slices.ContainsFunc(l, func(u api.Term) bool { return alike(s, u, form) }) {
				t.Errorf("Sorted(%v) = %v", l, got)
			}
		}
		for _, u := range l {
			if e != api.OK || !slices.ContainsFunc(got, func(form api.Term) bool { return alike(s, u, form) }) {
				t.Errorf("Sorted(%v) = %v, %d", l, got, e)
			}
		}
	})
}
