package unify_test

import (
	"slices"
	"testing"

	"lemmary/api"
	"lemmary/sample"
	"lemmary/unify"
)

type folding = func(s api.Sign, l []api.Term) (api.Term, api.Errno)

// 2.4
func TestMeetAllAndJoinAll(t *testing.T) {
	tests := []struct {
		l          []api.Term
		meet, join api.Term
	}{
		{[]api.Term{{0, -3, -1}}, api.Term{0, -1, -2}, api.Term{0, -1, -2}}, {[]api.Term{{-5}, {-7}}, api.Term{-1}, api.Term{-1}},
		{[]api.Term{{0, -1, 2}, {0, 2, -1}, {0, -1, -1}}, api.Term{0, 2, 2}, api.Term{0, -1, -2}},
		{[]api.Term{{0, 2, 2}, {0, 1, 2, 1, 2}, {0, 1, 1, 2, 1, 1, 2}}, nil, api.Term{0, -1, -1}},
		{[]api.Term{{0, 2, 2}, {0, 1, 2, 1, 2}, {2}}, nil, api.Term{-1}},
		{slices.Repeat([]api.Term{{1, -4}}, 60), api.Term{1, -1}, api.Term{1, -1}},
		{[]api.Term{{0, 0, -1, -2, -3}, {0, -1, 1, -2}, {0, 0, 2, -1, -1}}, api.Term{0, 0, 2, 1, -1, 1, -1}, api.Term{0, -1, -2}},
	}
	for _, test := range tests {
		meet, e := unify.MeetAll(sample.Sign(), test.l)
		if test.meet == nil && (e != api.ErrNone || len(meet) > 0) || test.meet != nil && (e != api.OK || !slices.Equal(meet, test.meet)) {
			t.Errorf("MeetAll(%v) = %v, %d", test.l, meet, e)
		}
		if join, e := unify.JoinAll(sample.Sign(), test.l); e != api.OK || !slices.Equal(join, test.join) {
			t.Errorf("JoinAll(%v) = %v, %d", test.l, join, e)
		}
	}
}

// 2.4: what comes first on the way, though the end would be another.
func TestErrorsOnTheWay(t *testing.T) {
	s := short()
	double, great := api.Term{0, -1, -1}, slices.Concat(api.Term{0}, sample.Tower(30), api.Term{-1})
	for _, test := range []struct {
		l []api.Term
		e api.Errno
	}{
		{[]api.Term{double, great, {2}}, api.ErrLimit}, {[]api.Term{double, {2}, great}, api.ErrNone}, {[]api.Term{great, great, double}, api.ErrLimit},
		{[]api.Term{{2}, double, great}, api.ErrNone}, {[]api.Term{{2}, {2}, {-3}, {1, -1}}, api.ErrNone},
	} {
		if meet, e := unify.MeetAll(s, test.l); e != test.e || len(meet) > 0 {
			t.Errorf("MeetAll(%v) = %v, %d", test.l, meet, e)
		}
	}
	row, other := sample.Chain(append(sample.Vars(0, 11), api.Term{-1})...), sample.Chain(append(sample.Vars(0, 11), api.Term{-2})...)
	if join, e := unify.JoinAll(s, []api.Term{row, other, {-1}}); e != api.ErrLimit || len(join) > 0 {
		t.Errorf("JoinAll = %v, %d", join, e)
	}
	if join, e := unify.JoinAll(s, []api.Term{row, {-1}, other}); e != api.OK || !slices.Equal(join, api.Term{-1}) {
		t.Errorf("JoinAll = %v, %d", join, e)
	}
}

// 2.4: how long a list may be; a term that is not valid comes first.
func TestListsOfWrongLength(t *testing.T) {
	s := short()
	for name, fold := range map[string]folding{"MeetAll": unify.MeetAll, "JoinAll": unify.JoinAll} {
		for size, want := range map[int]api.Errno{0: api.ErrRange, 1: api.OK, 60: api.OK, 61: api.ErrRange, 5000: api.ErrRange} {
			l := slices.Repeat([]api.Term{{-1}}, size)
			if u, e := fold(s, l); e != want || e != api.OK && len(u) > 0 {
				t.Errorf("%s of %d terms = %v, %d", name, size, u, e)
			}
			if u, e := fold(s, append(l, api.Term{0})); e != api.ErrInvalid || len(u) > 0 {
				t.Errorf("%s of %d terms and a wrong one = %v, %d", name, size, u, e)
			}
		}
	}
}

// P2.6, and that MeetAll is the meet of meets.
func TestOrderOfLists(t *testing.T) {
	var d sample.Dice
	s := sample.Sign()
	for range 2000 {
		l := []api.Term{}
		for range 2 + d.Roll(4) {
			l = append(l, d.Term(s, 1+d.Roll(12), 4))
		}
		join, e := unify.JoinAll(s, l)
		want, f := unify.Join(s, l[0], l[1])
		for _, next := range l[2:] {
			if f == api.OK {
				want, f = unify.Join(s, want, next)
			}
		}
		if e != f || !slices.Equal(join, want) {
			t.Errorf("JoinAll(%v) = %v, %d", l, join, e)
		}
		for i := len(l) - 1; i > 0; i-- {
			k := d.Roll(i + 1)
			l[i], l[k] = l[k], l[i]
		}
		again, f := unify.JoinAll(s, l)
		if e == api.OK && f == api.OK && !slices.Equal(join, again) {
			t.Errorf("JoinAll(%v) = %v, in another order %v", l, again, join)
		}
	}
}
