package blame_test

import (
	"slices"
	"testing"

	"lemmary/api"
	"lemmary/blame"
	"lemmary/deps"
	"lemmary/sample"
)

// 9.1: a valid library in ascending order of names, which are compared as
// strings.
func TestEdition(t *testing.T) {
	s := sample.Sign()
	for _, text := range []string{"", "a", "a b", "a a0 a_ aa b", "n1 n10 n2", "a:b b:a", "a:a", "a:gone", "b:a c"} {
		l := written(text)
		if !blame.Edition(s, l) {
			t.Errorf("%q is no edition", text)
		}
		for _, wrong := range sample.WrongSigns() {
			if blame.Edition(wrong, l) {
				t.Errorf("%q is an edition of %v", text, wrong)
			}
		}
	}
	for _, text := range []string{"b a", "a a", "a b b", "a c b", "n2 n10", "a_ a0", "aa a", "b:a a"} {
		if blame.Edition(s, written(text)) {
			t.Errorf("%q is an edition", text)
		}
	}
	if !blame.Edition(s, axioms(60)) || blame.Edition(s, axioms(61)) {
		t.Error("60 and 61 entries")
	}
	for _, l := range sample.WrongLibraries() {
		slices.SortFunc(l, byName)
		if blame.Edition(s, l) {
			t.Errorf("%v is an edition", l)
		}
	}
}

// 9.1: by random libraries in any order.
func TestSorted(t *testing.T) {
	var d sample.Dice
	s := sample.Sign()
	shuffled := 0
	for range 500 {
		want := dealt(&d, 20)
		l := slices.Clone(want)
		sample.Shuffle(&d, l)
		if !sample.SameEntries(l, want) {
			shuffled++
			if !deps.Valid(s, l) || blame.Edition(s, l) {
				t.Errorf("%v is an edition", l)
			}
		}
		if got, e := blame.Sorted(s, l); e != api.OK || !sample.SameEntries(got, want) || !blame.Edition(s, got) {
			t.Errorf("Sorted(%v) = %v, %d", l, got, e)
		}
	}
	if shuffled < 300 {
		t.Errorf("only %d are not sorted", shuffled)
	}
	got, e := blame.Sorted(s, written("n2 b:gone,a n10/bob a!:a n1"))
	checkEdition(t, "Sorted", got, e, "a!:a b:gone,a n1 n10/bob n2", api.OK)
}

// 9.2: each field counts, nil and empty lists are equal, and nothing need be
// valid.
func TestSame(t *testing.T) {
	right := sample.Library()[2]
	others := []func(x *api.Entry){
		func(x *api.Entry) { x.Name = "I" }, func(x *api.Entry) { x.By = "i" }, func(x *api.Entry) { x.By = "" }, func(x *api.Entry) { x.Name, x.By = x.By, x.Name },
		func(x *api.Entry) { x.Says = api.Term{0, -2, -2} }, func(x *api.Entry) { x.Says = x.Says[:2] }, func(x *api.Entry) { x.Says = nil },
		func(x *api.Entry) { x.Uses = []string{"s", "k"} }, func(x *api.Entry) { x.Uses = x.Uses[:1] }, func(x *api.Entry) { x.Uses = nil },
		func(x *api.Entry) { x.Proof = x.Proof[:3] }, func(x *api.Entry) { x.Proof = nil },
		func(x *api.Entry) { x.Proof[0].Kind = 2 }, func(x *api.Entry) { x.Proof[3].A = 1 }, func(x *api.Entry) { x.Proof[3].B = 2 },
	}
	for i, other := range others {
		x := sample.RoomyEntries([]api.Entry{right})[0]
		if !blame.Same(x, right) {
			t.Error("an entry is not the same as itself")
		}
		other(&x)
		if blame.Same(x, right) || blame.Same(right, x) || !blame.Same(x, x) {
			t.Errorf("%d: Same(%v, %v)", i, x, right)
		}
	}
	empty := api.Entry{Says: api.Term{}, Uses: []string{}, Proof: []api.Step{}}
	if !blame.Same(empty, api.Entry{}) || !blame.Same(api.Entry{}, empty) || blame.Same(right, api.Entry{}) {
		t.Error("nil and empty lists")
	}
	k := written("k")[0]
	full := k
	full.Uses, full.Proof = []string{}, []api.Step{}
	if !blame.Same(k, full) || !blame.Same(full, k) {
		t.Error("an axiom is not the same as itself")
	}
}

// 9.3
func TestBy(t *testing.T) {
	s := sample.Sign()
	l := written("a b/bob c/bob:a ca/cy d/ann:gone e/bobb f/bob")
	for by, want := range map[string][]string{"ann": {"a", "d"}, "bob": {"b", "c", "f"}, "cy": {"ca"}, "bobb": {"e"}, "bo": nil, "a": nil, "c": nil, "gone": nil} {
		if names, e := blame.By(s, l, by); e != api.OK || !slices.Equal(names, want) {
			t.Errorf("By %s = %v, %d", by, names, e)
		}
		if names, e := blame.By(s, nil, by); e != api.OK || len(names) != 0 {
			t.Errorf("By %s = %v, %d", by, names, e)
		}
	}
}
