package blame_test

import (
	"slices"
	"strings"
	"testing"

	"lemmary/api"
	"lemmary/blame"
	"lemmary/sample"
)

// checkMerge fails unless a merge has these conflicts and, if it has none, is
// so, whichever of the two editions comes first.
func checkMerge(t *testing.T, base, a, b, want []api.Entry, conflicts []string) {
	t.Helper()
	s := sample.Sign()
	wrong := api.OK
	if len(conflicts) > 0 {
		want, wrong = nil, api.ErrState
	}
	for _, sides := range [][2][]api.Entry{{a, b}, {b, a}} {
		if names, e := blame.Conflicts(s, base, sides[0], sides[1]); e != api.OK || !slices.Equal(names, conflicts) {
			t.Errorf("Conflicts(%v, %v) = %v, %d; want %v", base, sides, names, e, conflicts)
		}
		if merge, e := blame.Merged(s, base, sides[0], sides[1]); e != wrong || !sample.SameEntries(merge, want) || !blame.Edition(s, merge) {
			t.Errorf("Merged(%v, %v) = %v, %d; want %v, %d", base, sides, merge, e, want, wrong)
		}
	}
}

// 9.4: all that a name may be in three editions.
func TestMergeOfOneName(t *testing.T) {
	choice := []string{"", "k", "k!", "k/bob", "k:k"}
	for _, base := range choice {
		for _, a := range choice {
			for _, b := range choice {
				want, conflicts := a, []string{}
				if a == base {
					want = b
				} else if a != b && b != base {
					conflicts = []string{"k"}
				}
				checkMerge(t, written(base), written(a), written(b), written(want), conflicts)
				around := func(text string) []api.Entry { return written("a " + text + " z:k") }
				checkMerge(t, around(base), around(a), around(b), around(want), conflicts)
			}
		}
	}
}

// 9.4: several names at once; the chapter's example comes first. A merge may
// cite names that are gone, lean on itself, or prove nothing.
func TestMerged(t *testing.T) {
	tests := []struct{ base, a, b, want, conflicts string }{
		{"k", "k!", "", "", "k"}, {"k", "", "", "", ""}, {"", "", "", "", ""}, {"", "a c", "b d", "a b c d", ""}, {"", "a b!", "b! c", "a b! c", ""}, {"", "a b!", "b c", "", "b"},
		{"k", "i:k k", "", "i:k", ""}, {"a b", "a:b b", "a b:a", "a:b b:a", ""}, {"a b c", "a! b", "b/bob c", "", "a"}, {"a b c", "a b! c", "b c d", "b! c d", ""},
		{"a b c d", "a! b! c! d", "a/bob b! d!", "", "a c"}, {"n10 n2 z", "n10! n2! z!", "n10/bob n2/bob z!", "", "n10 n2"}, {"a", "b", "c", "b c", ""}, {"a", "a! b", "a! c", "a! b c", ""},
	}
	for _, test := range tests {
		checkMerge(t, written(test.base), written(test.a), written(test.b), written(test.want), strings.Fields(test.conflicts))
	}
}

// 9.4: ErrLimit of a 61st entry, behind ErrState.
func TestMergedLimit(t *testing.T) {
	s := sample.Sign()
	all := axioms(63)
	other := slices.Clone(all)
	other[5].By = "bob"
	tests := []struct {
		base, a, b []api.Entry
		size       int
		e          api.Errno
	}{
		{nil, all[:60], all[:60], 60, api.OK}, {nil, all[:40], all[20:60], 60, api.OK}, {nil, all[:60], all[60:61], 0, api.ErrLimit}, {nil, all[:40], all[20:61], 0, api.ErrLimit}, {nil, all[:60], all[3:63], 0, api.ErrLimit},
		{nil, all[:60], other[5:61], 0, api.ErrState}, {nil, all[:60], other[5:6], 0, api.ErrState}, {all[:60], all[:60], all[1:60], 59, api.OK}, {all[:60], all[1:60], all[:59], 58, api.OK}, {all[:1], all[:60], all[1:61], 60, api.OK}, {all[:60], all[1:61], all[:60], 60, api.OK}, {all[:58], all[:60], append(slices.Clone(all[:58]), all[60]), 0, api.ErrLimit},
	}
	for _, test := range tests {
		for _, sides := range [][2][]api.Entry{{test.a, test.b}, {test.b, test.a}} {
			if l, e := blame.Merged(s, test.base, sides[0], sides[1]); e != test.e || len(l) != test.size {
				t.Errorf("Merged of %d, %d and %d entries: %d, %d; want %d", len(test.base), len(sides[0]), len(sides[1]), len(l), e, test.e)
			}
		}
	}
	if names, e := blame.Conflicts(s, nil, all[:60], other[3:63]); e != api.OK || !slices.Equal(names, []string{"a05"}) {
		t.Errorf("Conflicts = %v, %d", names, e)
	}
}

// of returns the entry with a name, in a list of its own, or none.
func of(l []api.Entry, name string) []api.Entry {
	if i := at(l, name); i >= 0 {
		return l[i : i+1]
	}
	return nil
}

// 9.4, P9.4: by random editions, against the chapter's words.
func TestMergeRandom(t *testing.T) {
	var d sample.Dice
	s := sample.Sign()
	done := map[bool]int{}
	for range 2000 {
		base, a := pair(&d)
		b := slices.Clone(base)
		for range d.Roll(8) {
			if made, e := after(b, dealtChange(&d, b)); e == api.OK {
				b = made
			}
		}
		names := []string{}
		for _, x := range slices.Concat(base, a, b) {
			names = append(names, x.Name)
		}
		slices.Sort(names)
		want, conflicts := []api.Entry{}, []string{}
		for _, name := range slices.Compact(names) {
			was, one, other := of(base, name), of(a, name), of(b, name)
			if sample.SameEntries(one, other) || sample.SameEntries(other, was) {
				want = append(want, one...)
			} else if sample.SameEntries(one, was) {
				want = append(want, other...)
			} else {
				conflicts = append(conflicts, name)
			}
		}
		checkMerge(t, base, a, b, want, conflicts)
		checkMerge(t, base, a, base, a, nil)
		checkMerge(t, base, a, a, a, nil)
		merge, _ := blame.Merged(s, base, a, b)
		for i, x := range merge {
			if !sample.SameEntries(merge[i:i+1], of(a, x.Name)) && !sample.SameEntries(merge[i:i+1], of(b, x.Name)) {
				t.Errorf("%v is merged of %v and %v", x, a, b)
			}
		}
		done[len(conflicts) == 0]++
	}
	if done[true] < 500 || done[false] < 500 {
		t.Errorf("%v", done)
	}
}
