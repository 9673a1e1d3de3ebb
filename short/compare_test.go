package short_test

import (
	"slices"
	"testing"

	"lemmary/api"
	"lemmary/kernel"
	"lemmary/sample"
	"lemmary/short"
	"lemmary/term"
)

// 7.4
func TestWeight(t *testing.T) {
	c := sample.Cite
	s := sample.Sign()
	tests := []struct {
		p    []api.Step
		want int
	}{
		{[]api.Step{c(0)}, 5}, {[]api.Step{c(1)}, 13}, {[]api.Step{c(0), c(0), c(0)}, 15},
		{sample.Identity(), 13 + 5 + 7 + 3}, {example(), 13 + 5 + 5 + 7 + 3}, {append(sample.Identity(), c(2)), 28 + 60},
		{slices.Repeat([]api.Step{c(2)}, 60), 3600},
	}
	for _, test := range tests {
		if n, e := short.Weight(s, append(ks(), sample.Tower(60)), test.p); e != api.OK || n != test.want {
			t.Errorf("Weight(%v) = %d, %d", test.p, n, e)
		}
	}
	proofs(1000, 12, func(s api.Sign, g []api.Term, p []api.Step) {
		said, _ := told(s, g, p)
		want := 0
		for _, u := range said {
			want += len(u)
		}
		if n, e := short.Weight(s, g, p); e != api.OK || n != want {
			t.Errorf("Weight(%v) of %v = %d, %d", p, g, n, e)
		}
	})
}

// 7.4
func TestCommon(t *testing.T) {
	c, d := sample.Cite, sample.Detach
	s := sample.Sign()
	g := append(ks(), api.Term{0, -9, 0, -1, -9}, api.Term{0, -4, -4}, api.Term{0, -3, -2})
	i, sk := api.Term{0, -1, -1}, api.Term{0, 0, -1, -2, 0, -1, -1}
	tests := []struct {
		p, q []api.Step
		want []api.Term
	}{
		{[]api.Step{c(0)}, []api.Step{c(1)}, nil},
		{[]api.Step{c(0)}, []api.Step{c(2)}, []api.Term{sample.K()}},
		{sample.Identity(), []api.Step{c(3)}, []api.Term{i}},
		{sample.Identity(), []api.Step{c(4), d(0, 0)}, nil},
		{sample.Identity(), []api.Step{c(3), c(0), c(2), c(3)}, []api.Term{i, sample.K()}},
		{example(), sample.Identity(), []api.Term{i, sample.K(), sk, sample.S()}},
	}
	for _, test := range tests {
		for _, pair := range [][2][]api.Step{{test.p, test.q}, {test.q, test.p}} {
			if l, e := short.Common(s, g, pair[0], pair[1]); e != api.OK || !sameTerms(l, test.want) {
				t.Errorf("Common(%v) = %v, %d", pair, l, e)
			}
		}
	}
}

// pairs calls visit with pairs of random good proofs for the same givens.
func pairs(count, most int, visit func(s api.Sign, g []api.Term, p, q []api.Step)) {
	var d sample.Dice
	proofs(count, most, func(s api.Sign, g []api.Term, p []api.Step) {
		visit(s, g, p, good(&d, s, g, 1+d.Roll(most)))
	})
}

// 7.4: by random pairs, against all pairs of statements.
func TestCommonRandom(t *testing.T) {
	some, none := 0, 0
	pairs(2000, 10, func(s api.Sign, g []api.Term, p, q []api.Step) {
		a, _ := told(s, g, p)
		b, _ := told(s, g, q)
		want := []api.Term{}
		for _, u := range a {
			for _, v := range b {
				if slices.Equal(u, v) {
					want = append(want, u)
				}
			}
		}
		slices.SortFunc(want, term.Compare)
		want = slices.CompactFunc(want, slices.Equal)
		if l, e := short.Common(s, g, p, q); e != api.OK || !sameTerms(l, want) {
			t.Errorf("Common(%v, %v, %v) = %v, %d", g, p, q, l, e)
		}
		if len(want) > 1 {
			some++
		} else if len(want) == 0 {
			none++
		}
	})
	if some < 300 || none < 300 {
		t.Errorf("%d pairs with some, %d with none", some, none)
	}
}

// 7.4
func TestBetter(t *testing.T) {
	c, d := sample.Cite, sample.Detach
	s := sample.Sign()
	g := append(ks(), api.Term{0, -4, -4}, api.Term{0, 1, -1, 1, -1}, api.Term{-7})
	tests := []struct {
		p, q []api.Step
		want bool
	}{
		{sample.Identity(), sample.Identity(), true}, {sample.Identity(), example(), true}, {example(), sample.Identity(), false},
		{[]api.Step{c(2)}, sample.Identity(), true}, {sample.Identity(), []api.Step{c(2)}, false},
		{[]api.Step{c(3)}, sample.Identity(), false}, {sample.Identity(), []api.Step{c(0), c(0), c(0), c(3)}, true}, {sample.Identity(), []api.Step{c(0), c(0), c(3)}, false},
		{[]api.Step{c(4)}, []api.Step{c(1)}, true}, {[]api.Step{c(1)}, []api.Step{c(4)}, false}, {[]api.Step{c(0)}, []api.Step{c(1)}, false},
		{[]api.Step{c(4), c(0)}, []api.Step{c(0), c(4), c(1)}, false}, // only what the last steps say counts
		{[]api.Step{c(0), c(2)}, []api.Step{c(1), c(0), d(0, 1), d(2, 1), c(3)}, true},
	}
	for _, test := range tests {
		if is, e := short.Better(s, g, test.p, test.q); e != api.OK || is != test.want {
			t.Errorf("Better(%v, %v) = %t, %d", test.p, test.q, is, e)
		}
	}
	found := 0
	pairs(3000, 6, func(s api.Sign, g []api.Term, p, q []api.Step) {
		u, _ := kernel.Says(s, g, p)
		v, _ := kernel.Says(s, g, q)
		want := len(p) <= len(q) && sample.Instance(s, u, v)
		if is, e := short.Better(s, g, p, q); e != api.OK || is != want {
			t.Errorf("Better(%v, %v, %v) = %t, %d", g, p, q, is, e)
		}
		if want && len(p) < len(q) && !slices.Equal(u, v) {
			found++
		}
	})
	if found < 50 {
		t.Errorf("only %d proofs are better", found)
	}
}

// P7.2: a shortest proof is better than the proof that it is made of.
func TestShortestIsBetter(t *testing.T) {
	proofs(500, 12, func(s api.Sign, g []api.Term, p []api.Step) {
		q, _ := short.Shortest(s, g, p)
		r, _ := short.Trimmed(len(g), p)
		for _, l := range [][]api.Step{q, r} {
			if is, e := short.Better(s, g, l, p); e != api.OK || !is {
				t.Errorf("Better(%v, %v, %v) = %t, %d", g, l, p, is, e)
			}
		}
	})
}
