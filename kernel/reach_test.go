package kernel_test

import (
	"math"
	"slices"
	"testing"

	"lemmary/api"
	"lemmary/kernel"
	"lemmary/sample"
	"lemmary/term"
)

// 4.5: also with givens that are alike, and with a statement that is detached
// from itself.
func TestReachable(t *testing.T) {
	s := short()
	k := sample.K()
	kk := api.Term{0, -1, 0, -2, 0, -3, -2}
	tests := []struct {
		g    []api.Term
		most int
		want []api.Term
	}{
		{nil, 0, nil}, {nil, 3, nil}, {[]api.Term{}, 1, nil},
		{[]api.Term{{1, -3}, {-5}, {1, -1}, {2}, {-1}}, 0, []api.Term{{-1}, {2}, {1, -1}}},
		{[]api.Term{k}, 0, []api.Term{k}},
		{[]api.Term{k}, 1, []api.Term{k, kk}},
		{[]api.Term{{0, -9, 0, -2, -9}}, 1, []api.Term{k, kk}},
		{[]api.Term{{1, 2}, {0, 1, -1, 0, 2, -1}}, 1, []api.Term{{1, 2}, {0, 2, 2}, {0, 1, -1, 0, 2, -1}}},
		{[]api.Term{{1, 2}, {0, 1, -1, 0, 2, -1}}, 3, []api.Term{{1, 2}, {0, 2, 2}, {0, 1, -1, 0, 2, -1}}},
		{[]api.Term{{0, 1, -1, -1}, sample.Tower(5)}, 0, []api.Term{{0, 1, -1, -1}, sample.Tower(5)}},
		{[]api.Term{{0, 1, -1, -1}, sample.Tower(5)}, 1, []api.Term{{0, 1, -1, -1}, sample.Tower(4), sample.Tower(5)}},
		{[]api.Term{{0, 1, -1, -1}, sample.Tower(5)}, 2, []api.Term{sample.Tower(3), {0, 1, -1, -1}, sample.Tower(4), sample.Tower(5)}},
		{[]api.Term{{0, 1, -1, -1}, sample.Tower(5)}, 3, []api.Term{sample.Tower(2), sample.Tower(3), {0, 1, -1, -1}, sample.Tower(4), sample.Tower(5)}},
		{[]api.Term{{0, -1, 0, -1, -1}, sample.Tower(30)}, 1, []api.Term{{0, -1, 0, -1, -1}, {0, 0, -1, 0, -1, -1, 0, -1, 0, -1, -1}, sample.Tower(30)}},
	}
	for _, test := range tests {
		if l, e := kernel.Reachable(s, test.g, test.most); e != api.OK || !sameTerms(l, test.want) {
			t.Errorf("Reachable(%v, %d) = %v, %d", test.g, test.most, l, e)
		}
	}
}

// 4.5
func TestReachableRange(t *testing.T) {
	for _, most := range []int{-1, 4, math.MinInt, math.MaxInt} {
		for _, g := range [][]api.Term{nil, {{2}}, ks()} {
			if l, e := kernel.Reachable(short(), g, most); e != api.ErrRange || len(l) != 0 {
				t.Errorf("Reachable(%v, %d) = %v, %d", g, most, l, e)
			}
		}
		if l, e := kernel.Reachable(short(), []api.Term{{0}}, most); e != api.ErrInvalid || len(l) != 0 {
			t.Errorf("Reachable(%d) = %v, %d", most, l, e)
		}
	}
}

// 4.5: 60 statements are none too many, 61 are; what is there several times
// counts once, and no time after a failed one makes it good.
func TestReachableLimit(t *testing.T) {
	s := sample.Sign()
	g := []api.Term{{2}}
	for i := range 29 {
		g = append(g, slices.Concat(api.Term{0, 2}, slices.Repeat(api.Term{1}, i+1), api.Term{2}))
	}
	for _, x := range []struct {
		more []api.Term
		most int
		size int // 0: too many
	}{
		{nil, 0, 30}, {nil, 1, 59}, {nil, 2, 59}, {nil, 3, 59},
		{[]api.Term{{3, 2, 2, 2}}, 1, 60}, {[]api.Term{{3, 2, 2, 2}}, 3, 60}, {[]api.Term{{3, 2, 2, 2}, {3, -1, -1, -1}}, 0, 32}, {[]api.Term{{3, 2, 2, 2}, {3, -1, -1, -1}}, 1, 0},
		{[]api.Term{{3, 2, 2, 2}, {3, -1, -1, -1}}, 3, 0}, {[]api.Term{{3, -5, 2, -5}, {3, -1, 2, -1}}, 1, 60}, {[]api.Term{{3, -5, 2, -5}, {3, -1, 2, -2}}, 1, 0},
		{slices.Repeat([]api.Term{{2}}, 30), 1, 59},
	} {
		l, e := kernel.Reachable(s, append(slices.Clone(g), x.more...), x.most)
		if len(l) != x.size || (e == api.OK) != (x.size > 0) || e != api.OK && e != api.ErrLimit {
			t.Errorf("Reachable with %v, %d times: %d statements, %d", x.more, x.most, len(l), e)
		}
	}
	if l, e := kernel.Reachable(short(), ks(), 3); e != api.ErrLimit || len(l) != 0 {
		t.Errorf("Reachable of K and S: %v, %d", l, e)
	}
}

// 4.5: against another way: each statement that is there is paired with each.
func TestReachableOfRandomGivens(t *testing.T) {
	var d sample.Dice
	done := map[api.Errno]int{}
	for range 400 {
		s := short()[:1+d.Roll(3)]
		g := ks()[d.Roll(3):]
		for range d.Roll(4) {
			u := d.Term(s, 1+d.Roll(9), 3)
			if d.Roll(2) == 0 {
				u = slices.Concat(api.Term{0}, u, d.Term(s, 1+d.Roll(4), 3))
			}
			g = append(g, u)
		}
		for most := range 4 {
			want, e := reached(s, g, most)
			l, f := kernel.Reachable(s, g, most)
			if f != e || !sameTerms(l, want) {
				t.Errorf("Reachable(%v, %d) = %v, %d; want %v, %d", g, most, l, f, want, e)
			}
			done[f]++
		}
	}
	if done[api.OK] < 500 || done[api.ErrLimit] < 20 {
		t.Errorf("%v", done)
	}
}

func reached(s api.Sign, g []api.Term, most int) ([]api.Term, api.Errno) {
	l := []api.Term{}
	add := func(u api.Term) {
		if !slices.ContainsFunc(l, func(v api.Term) bool { return slices.Equal(u, v) }) {
			l = append(l, u)
		}
	}
	for _, u := range g {
		u, _ = form(u)
		add(u)
	}
	for range most {
		there := slices.Clone(l)
		for i := range len(there) * len(there) {
			if u, e := detached(s, there[i/len(there)], there[i%len(there)]); e == api.OK {
				add(u)
			}
		}
		if len(l) > api.MaxList {
			return nil, api.ErrLimit
		}
	}
	slices.SortFunc(l, term.Compare)
	return l, api.OK
}
