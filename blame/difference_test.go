package blame_test

import (
	"slices"
	"testing"

	"lemmary/api"
	"lemmary/blame"
	"lemmary/sample"
)

// checkDifference fails unless the difference of two editions, by bob, is so, or
// an error.
func checkDifference(t *testing.T, a, b []api.Entry, want string, wrong api.Errno) {
	t.Helper()
	list, e := blame.Difference(sample.Sign(), a, b, "bob")
	if e != wrong || !sameChanges(list, changes(want)) {
		t.Errorf("Difference(%v, %v) = %v, %d; want %q, %d", a, b, list, e, want, wrong)
	}
}

// 9.2: what is set comes first, then what is dropped, each time the greatest
// that can be, then what is added.
func TestDifference(t *testing.T) {
	tests := []struct {
		a, b, want string
		e          api.Errno
	}{
		{"", "", "", api.OK}, {"a b!:a", "a b!:a", "", api.OK}, {"", "a b c", "add bob a; add bob b; add bob c", api.OK}, {"a b c", "", "drop bob c; drop bob b; drop bob a", api.OK}, {"a b", "b c", "drop bob a; add bob c", api.OK},
		{"a b c d", "a! b/bob c d:a", "set bob a!; set bob b/bob; set bob d:a", api.OK}, {"b d f", "a c d! e f/cy:e", "set bob d!; set bob f/cy:e; drop bob b; add bob a; add bob c; add bob e", api.OK},
		{"a b:a", "", "drop bob b; drop bob a", api.OK}, {"a:b b", "", "drop bob a; drop bob b", api.OK}, {"a:c b c d", "", "drop bob d; drop bob b; drop bob a; drop bob c", api.OK}, {"a:d b:c c:a d", "", "drop bob b; drop bob c; drop bob a; drop bob d", api.OK},
		{"a:e b c:b d e", "d", "drop bob c; drop bob b; drop bob a; drop bob e", api.OK}, {"a:c b:c c d", "", "drop bob d; drop bob b; drop bob a; drop bob c", api.OK},
		{"a:a", "", "drop bob a", api.OK}, {"a:a,b b", "c", "drop bob a; drop bob b; add bob c", api.OK}, {"", "a:b b:a c:c", "add bob a:b; add bob b:a; add bob c:c", api.OK},
		{"a b:a", "b", "set bob b; drop bob a", api.OK}, {"a b:a c:b", "b:c c", "set bob b:c; set bob c; drop bob a", api.OK}, {"a:gone", "gone", "drop bob a; add bob gone", api.OK}, {"a:gone", "a:gone gone", "add bob gone", api.OK},
		{"a b:a", "b:a", "", api.ErrState}, {"a b", "b:a", "", api.ErrState}, {"a:b b:a", "", "", api.ErrState}, {"a:b b:a c", "c! d", "", api.ErrState}, {"a:b b:c c:a d", "e", "", api.ErrState}, {"a b:a c d:c", "d:c", "", api.ErrState}, {"a:b b:a", "a:b", "", api.ErrState},
	}
	for _, test := range tests {
		checkDifference(t, written(test.a), written(test.b), test.want, test.e)
	}
	for _, by := range sample.RightNames() {
		list, e := blame.Difference(sample.Sign(), written("a b"), written("a! c"), by)
		if e != api.OK || len(list) != 3 || slices.ContainsFunc(list, func(c api.Change) bool { return c.By != by }) {
			t.Errorf("Difference by %q = %v, %d", by, list, e)
		}
	}
}

// 9.2: all entries are dropped before others are added, so that there is always
// room.
func TestDifferenceLimit(t *testing.T) {
	s := sample.Sign()
	others := axioms(60)
	for i := range others {
		others[i].Name = "b" + others[i].Name
	}
	half := slices.Concat(axioms(30), others[30:])
	half[3].By = "cy"
	for _, b := range [][]api.Entry{others, half, nil} {
		list, e := blame.Difference(s, axioms(60), b, "bob")
		got, i, f := blame.Played(s, axioms(60), list)
		if e != api.OK || f != api.OK || i != -1 || !sample.SameEntries(got, b) {
			t.Errorf("%d changes, %d: %d entries, %d, %d", len(list), e, len(got), i, f)
		}
	}
}

// difference tells by the chapter's words what makes b of a.
func difference(a, b []api.Entry) ([]api.Change, bool) {
	list := []api.Change{}
	now := slices.Clone(a)
	for i, x := range a {
		if k := at(b, x.Name); k >= 0 && !sample.SameEntries(a[i:i+1], b[k:k+1]) {
			list = append(list, api.Change{Kind: api.CSet, By: "bob", Entry: b[k]})
			now[i] = b[k]
		}
	}
	for i := len(now) - 1; i >= 0; i-- {
		if at(b, now[i].Name) < 0 && !uses(now, now[i].Name) {
			list = append(list, api.Change{Kind: api.CDrop, By: "bob", Name: now[i].Name})
			now = without(now, i)
			i = len(now)
		}
	}
	for _, x := range b {
		if at(a, x.Name) < 0 {
			list = append(list, api.Change{Kind: api.CAdd, By: "bob", Entry: x})
		}
	}
	return list, !slices.ContainsFunc(now, func(x api.Entry) bool { return at(b, x.Name) < 0 })
}

// pair returns two random editions that have much in common.
func pair(d *sample.Dice) (a, b []api.Entry) {
	a = dealt(d, 10)
	if d.Roll(3) == 0 {
		return a, dealt(d, 10)
	}
	b = slices.Clone(a)
	for range d.Roll(8) {
		if made, e := after(b, dealtChange(d, b)); e == api.OK {
			b = made
		}
	}
	return a, b
}

// 9.2, P9.3: by random editions, against the chapter's words.
func TestDifferenceRandom(t *testing.T) {
	var d sample.Dice
	s := sample.Sign()
	done := map[bool]int{}
	for range 2000 {
		a, b := pair(&d)
		want, all := difference(a, b)
		list, e := blame.Difference(s, a, b, "bob")
		done[all]++
		if !all {
			if e != api.ErrState || len(list) != 0 {
				t.Errorf("Difference(%v, %v) = %v, %d", a, b, list, e)
			}
			continue
		}
		if e != api.OK || !sameChanges(list, want) {
			t.Errorf("Difference(%v, %v) = %v, %d; want %v", a, b, list, e, want)
		}
		if got, i, e := blame.Played(s, a, list); e != api.OK || i != -1 || !sample.SameEntries(got, b) {
			t.Errorf("%v played in %v is %v, %d, %d; want %v", list, a, got, i, e, b)
		}
		if list, e := blame.Difference(s, b, b, "cy"); e != api.OK || len(list) != 0 {
			t.Errorf("Difference of %v and itself = %v, %d", b, list, e)
		}
	}
	if done[true] < 500 || done[false] < 50 {
		t.Errorf("%v", done)
	}
}
