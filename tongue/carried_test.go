package tongue_test

import (
	"slices"
	"testing"

	"lemmary/api"
	"lemmary/sample"
	"lemmary/term"
	"lemmary/tongue"
)

// rebuilt carries a term by the functions of package term.
func rebuilt(t *testing.T, a, b api.Sign, d []api.Way, u api.Term) api.Term {
	if u[0] < 0 {
		return u
	}
	args, _ := term.Args(a, u)
	moved := []api.Term{}
	for _, k := range d[u[0]].Args {
		moved = append(moved, rebuilt(t, a, b, d, args[k]))
	}
	w, e := term.Built(b, d[u[0]].To, moved)
	if e != api.OK {
		t.Fatalf("Built: %d", e)
	}
	return w
}

// 3.2: also terms that are not canonical, or do not stay so.
func TestCarried(t *testing.T) {
	s := sample.Sign()
	tests := []struct{ u, want api.Term }{
		{api.Term{-5}, api.Term{-5}}, {api.Term{2}, api.Term{2}}, {api.Term{0, -1, -2}, api.Term{0, -1, -2}}, {api.Term{3, -1, -2, -3}, api.Term{3, -3, -1, -2}},
		{api.Term{3, 1, -1, 0, -2, -1, 3, 2, -3, -4}, api.Term{3, 3, -4, 2, -3, 1, -1, 0, -2, -1}}, {sample.Tower(60), sample.Tower(60)},
	}
	for _, x := range tests {
		if w, e := tongue.Carried(s, s, sample.RightWays(), x.u); e != api.OK || !slices.Equal(w, x.want) {
			t.Errorf("Carried(%v) = %v, %d", x.u, w, e)
		}
	}
	if w, e := tongue.Carried(two(), two(), flip(), api.Term{1, -1, 0, -2, -1}); e != api.OK || !slices.Equal(w, api.Term{1, 0, -2, -1, -1}) {
		t.Errorf("Carried = %v, %d", w, e)
	}
}

// 3.2, P3.3: a carried term has the size, the depth and the variables of the
// term.
func TestCarriedTerms(t *testing.T) {
	var dice sample.Dice
	journeys(200, func(a, b api.Sign, d []api.Way) {
		u := dice.Term(a, 60, 12)
		w, e := tongue.Carried(a, b, d, u)
		if e != api.OK || !slices.Equal(w, rebuilt(t, a, b, d, u)) || len(w) != len(u) {
			t.Errorf("Carried(%v, %v) = %v, %d", d, u, w, e)
		}
		depth, _ := term.Depth(a, u)
		vars, _ := term.Vars(a, u)
		after, _ := term.Vars(b, w)
		if n, e := term.Depth(b, w); e != api.OK || n != depth || !slices.Equal(slices.Sorted(slices.Values(vars)), slices.Sorted(slices.Values(after))) {
			t.Errorf("Carried(%v, %v) = %v", d, u, w)
		}
	})
}

// P2, P3.3: alike terms are carried to alike terms.
func TestCarriedAlike(t *testing.T) {
	var dice sample.Dice
	journeys(200, func(a, b api.Sign, d []api.Way) {
		u := dice.Term(a, 60, 12)
		form, _ := term.Canonical(a, u)
		v, _ := tongue.Carried(a, b, d, u)
		w, _ := tongue.Carried(a, b, d, form)
		if !term.Alike(b, v, w) {
			t.Errorf("%v: %v becomes %v, %v becomes %v", d, u, v, form, w)
		}
	})
}

// 3.3
func TestLacks(t *testing.T) {
	a, b := sample.Sign(), sample.Twins()
	d := []api.Way{{To: 0, Args: []int{0, 1}}, {To: 3, Args: []int{0}}, {To: 8}, {To: 4, Args: []int{1, 0, 2}}}
	tests := []struct {
		u    api.Term
		want bool
	}{
		{api.Term{-1}, false}, {api.Term{8}, false}, {api.Term{1}, true}, {api.Term{0, -1, 3, 8}, false}, {api.Term{0, -1, 5, 8}, true}, {api.Term{4, -1, 8, 0, -1, -2}, false},
		{api.Term{4, -1, 8, 6, -1, -2}, true}, {api.Term{2, -1, -1}, true}, {api.Term{0, 3, -1, 4, -1, -1, 1}, true},
	}
	for _, x := range tests {
		if lacks, e := tongue.Lacks(a, b, d, x.u); lacks != x.want || e != api.OK {
			t.Errorf("Lacks(%v) = %v, %d", x.u, lacks, e)
		}
		w, e := tongue.Fetched(a, b, d, x.u)
		if x.want && (e != api.ErrNone || len(w) != 0) || !x.want && e != api.OK {
			t.Errorf("Fetched(%v) = %v, %d", x.u, w, e)
		}
	}
}

// 3.3: of several terms the first one, also where they have their arguments in
// different orders.
func TestFetched(t *testing.T) {
	a := api.Sign{{Name: "C", Arity: 2}, {Name: "A", Arity: 2}, {Name: "B", Arity: 2}}
	b := two()
	d := []api.Way{{To: 0, Args: []int{0, 1}}, {To: 1, Args: []int{1, 0}}, {To: 1, Args: []int{0, 1}}}
	tests := []struct{ u, want api.Term }{
		{api.Term{-3}, api.Term{-3}}, {api.Term{0, -1, -2}, api.Term{0, -1, -2}}, {api.Term{1, -1, -2}, api.Term{1, -2, -1}}, {api.Term{1, 0, -1, -2, 1, -3, -4}, api.Term{1, 1, -4, -3, 0, -1, -2}},
	}
	for _, x := range tests {
		if w, e := tongue.Fetched(a, b, d, x.u); e != api.OK || !slices.Equal(w, x.want) {
			t.Errorf("Fetched(%v) = %v, %d", x.u, w, e)
		}
	}
	d[2].To = 0
	if w, e := tongue.Fetched(a, b, d, api.Term{0, -1, 1, -1, -2}); e != api.OK || !slices.Equal(w, api.Term{0, -1, 1, -2, -1}) {
		t.Errorf("Fetched = %v, %d", w, e)
	}
}

// 3.3: Fetched finds the first one of all terms, or there is none.
func TestFetchedOfAll(t *testing.T) {
	var dice sample.Dice
	a := api.Sign{{Name: "C", Arity: 2}, {Name: "N", Arity: 1}, {Name: "K", Arity: 2}, {Name: "T"}, {Name: "A", Arity: 2}, {Name: "F"}}
	b := api.Sign{{Name: "C", Arity: 2}, {Name: "K", Arity: 2}, {Name: "T"}, {Name: "M", Arity: 1}, {Name: "A", Arity: 2}, {Name: "F"}}
	from, to := sample.SmallTerms(a, 4, 0, 1), sample.SmallTerms(b, 4, 0, 1)
	slices.SortFunc(from, term.Compare)
	none := 0
	for range 10 {
		d := dice.Ways(a, b)
		first := map[string]api.Term{}
		for _, u := range slices.Backward(from) {
			w, _ := tongue.Carried(a, b, d, u)
			text, _ := tongue.Write(b, 1, w)
			first[text] = u
		}
		for _, u := range to {
			text, _ := tongue.Write(b, 1, u)
			w, e := tongue.Fetched(a, b, d, u)
			lacks, _ := tongue.Lacks(a, b, d, u)
			want, found := first[text]
			if found != (e == api.OK) || !found && e != api.ErrNone || lacks == found || !slices.Equal(w, want) {
				t.Errorf("%v: Fetched(%v) = %v, %d, not %v", d, u, w, e, want)
			}
			if !found {
				none++
			}
		}
	}
	if none < 100 || none > 10*len(to)-100 {
		t.Error(none)
	}
}

// P3.5
func TestFetchedIsCarried(t *testing.T) {
	var dice sample.Dice
	journeys(200, func(a, b api.Sign, d []api.Way) {
		u, _ := tongue.Carried(a, b, d, dice.Term(a, 60, 12))
		w, e := tongue.Fetched(a, b, d, u)
		if back, f := tongue.Carried(a, b, d, w); e != api.OK || f != api.OK || !slices.Equal(back, u) {
			t.Errorf("Fetched(%v, %v) = %v, %d, becomes %v", d, u, w, e, back)
		}
		if lacks, e := tongue.Lacks(a, b, d, u); lacks || e != api.OK {
			t.Errorf("Lacks(%v, %v)", d, u)
		}
	})
}

// 3.3
func TestSymmetric(t *testing.T) {
	tests := []struct {
		u    api.Term
		want bool
	}{
		{api.Term{-4}, true}, {api.Term{1, -1, -2}, true}, {api.Term{1, -4, -2}, true}, {api.Term{0, -1, -2}, true}, {api.Term{1, -1, 0, -1, -2}, false}, {api.Term{1, 0, -1, -2, 0, -3, -4}, true},
		{api.Term{0, 1, -1, -2, -1}, false}, {api.Term{0, 1, -1, -2, 1, -2, -1}, true}, {api.Term{0, 1, -1, -1, -1}, true}, {api.Term{1, 0, -1, -2, 0, -2, -3}, false},
	}
	for _, x := range tests {
		if is, e := tongue.Symmetric(two(), flip(), x.u); is != x.want || e != api.OK {
			t.Errorf("Symmetric(%v) = %v, %d", x.u, is, e)
		}
	}
	var dice sample.Dice
	some := map[bool]int{}
	for range 2000 {
		s := sample.Sign()
		d, u := dice.Ways(s, s), dice.Term(s, 12, 3)
		w, _ := tongue.Carried(s, s, d, u)
		is, e := tongue.Symmetric(s, d, u)
		if e != api.OK || is != term.Alike(s, u, w) {
			t.Errorf("Symmetric(%v, %v) = %v, %d", d, u, is, e)
		}
		some[is]++
	}
	if some[true] < 100 || some[false] < 100 {
		t.Error(some)
	}
}
