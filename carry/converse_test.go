package carry_test

import (
	"cmp"
	"slices"
	"testing"

	"lemmary/api"
	"lemmary/carry"
	"lemmary/kernel"
	"lemmary/sample"
	"lemmary/term"
)

// 8.3
func TestConverse(t *testing.T) {
	tests := []struct{ t, want api.Term }{
		{api.Term{0, -1, -2}, api.Term{0, -1, -2}}, {api.Term{0, -7, -7}, api.Term{0, -1, -1}}, {sample.K(), api.Term{0, 0, -1, -2, -2}}, {api.Term{0, 0, -1, -2, -2}, sample.K()},
		{sample.S(), api.Term{0, 0, 0, -1, -2, 0, -1, -3, 0, -1, 0, -2, -3}}, {api.Term{0, 2, 8}, api.Term{0, 8, 2}}, {api.Term{0, 1, -3, 2}, api.Term{0, 2, 1, -1}},
		{api.Term{0, 4, -1, -2, 4, -2, -1}, api.Term{0, 4, -1, -2, 4, -2, -1}}, {api.Term{0, 4, -3, -3, -12}, api.Term{0, -1, 4, -2, -2}},
		{append(append(api.Term{0}, sample.Tower(57)...), 1, -5), append(api.Term{0, 1, -1}, sample.Tower(57)...)},
		{sample.Chain(sample.Vars(0, 11)...), append(append(api.Term{0}, sample.Chain(sample.Vars(0, 10)...)...), -12)},
	}
	for _, test := range tests {
		u, e := carry.Converse(logic(), test.t)
		if e != api.OK || !slices.Equal(u, test.want) {
			t.Errorf("Converse(%v) = %v, %d", test.t, u, e)
		}
	}
	for _, u := range []api.Term{{-1}, {-12}, {2}, {1, 0, -1, -2}, {4, -1, -2}, {5, 0, -1, -2, 0, -1, -2}, {3, 0, -1, -1, -1, -2}, sample.Tower(60)} {
		if v, e := carry.Converse(logic(), u); e != api.ErrState || len(v) != 0 {
			t.Errorf("Converse(%v) = %v, %d", u, v, e)
		}
	}
}

// P8.4: by all small terms and random ones.
func TestConverseOfConverse(t *testing.T) {
	s := sample.Sign()
	for _, u := range append(sample.SmallTerms(s, 5, 0, 1, 7), sample.RandomTerms(s, 2000)...) {
		v, e := carry.Converse(s, u)
		if u[0] != 0 {
			if e != api.ErrState || len(v) != 0 {
				t.Errorf("Converse(%v) = %v, %d", u, v, e)
			}
			continue
		}
		w, f := carry.Converse(s, v)
		if e != api.OK || f != api.OK || !slices.Equal(w, sample.Form(u)) || !term.IsCanonical(s, v) {
			t.Errorf("Converse(%v) = %v, %d; that of this is %v, %d", u, v, e, w, f)
		}
		for _, pair := range [][2]api.Term{{u, v}, {v, u}, {w, v}} {
			if is, e := carry.Equivalence(s, pair[0], pair[1]); !is || e != api.OK {
				t.Errorf("Equivalence%v = %t, %d", pair, is, e)
			}
		}
	}
}

// 8.3: statements need not be canonical, and their variables need not be the
// same.
func TestEquivalence(t *testing.T) {
	tests := []struct {
		t, u api.Term
		want bool
	}{
		{api.Term{0, -1, 1, -2}, api.Term{0, 1, -1, -2}, true}, {api.Term{0, -1, 1, -2}, api.Term{0, 1, -9, -4}, true}, {api.Term{0, -3, 1, -2}, api.Term{0, 1, -3, -2}, true},
		{api.Term{0, -1, 1, -2}, api.Term{0, 1, -1, -1}, false}, {api.Term{0, -1, 1, -1}, api.Term{0, 1, -1, -2}, false}, {api.Term{0, -1, 1, -1}, api.Term{0, 1, -1, -1}, true},
		{api.Term{0, -1, -2}, api.Term{0, -1, -2}, true}, {api.Term{0, -1, -1}, api.Term{0, -1, -2}, false}, {api.Term{0, -1, -1}, api.Term{0, -4, -4}, true},
		{api.Term{0, 4, -1, -2, 4, -2, -1}, api.Term{0, 4, -2, -1, 4, -1, -2}, true}, {api.Term{0, 4, -1, -2, 4, -1, -2}, api.Term{0, 4, -1, -2, 4, -2, -1}, false},
		{api.Term{0, 4, -1, -2, -1}, api.Term{0, -1, 4, -1, -2}, true}, {api.Term{0, 4, -1, -2, -1}, api.Term{0, -1, 4, -2, -1}, false}, {api.Term{0, 4, -1, -2, -1}, api.Term{0, -2, 4, -2, -1}, true},
		{sample.K(), sample.K(), false}, {api.Term{-1}, api.Term{-1}, false}, {api.Term{2}, api.Term{2}, false}, {api.Term{4, -1, -2}, api.Term{4, -2, -1}, false},
		{api.Term{0, 2, 8}, api.Term{0, 8, 2}, true}, {api.Term{0, 2, 8}, api.Term{0, 2, 8}, false}, {api.Term{0, 2, 8}, api.Term{0, -1, 2}, false}, {api.Term{0, 2, 8}, api.Term{2}, false}, {api.Term{-1}, api.Term{0, -1, -2}, false},
	}
	for _, test := range tests {
		for _, pair := range [][2]api.Term{{test.t, test.u}, {test.u, test.t}} {
			if is, e := carry.Equivalence(logic(), pair[0], pair[1]); is != test.want || e != api.OK {
				t.Errorf("Equivalence%v = %t, %d", pair, is, e)
			}
		}
	}
}

// isEquivalence tells by instances both ways whether two statements are each
// other's converse.
func isEquivalence(s api.Sign, t, u api.Term) bool {
	if t[0] != 0 || u[0] != 0 {
		return false
	}
	args, _ := term.Args(s, t)
	turned := slices.Concat(api.Term{0}, args[1], args[0])
	return sample.Instance(s, turned, u) && sample.Instance(s, u, turned)
}

// 8.3: by all pairs of small terms.
func TestEquivalenceOfSmallTerms(t *testing.T) {
	s := api.Sign{{Name: "C", Arity: 2}, {Name: "N", Arity: 1}, {Name: "T"}}
	terms, found := sample.SmallTerms(s, 5, 0, 4), 0
	for _, u := range terms {
		for _, v := range terms {
			want := isEquivalence(s, u, v)
			if is, e := carry.Equivalence(s, u, v); is != want || e != api.OK {
				t.Errorf("Equivalence(%v, %v) = %t, %d", u, v, is, e)
			}
			if want {
				found++
			}
		}
	}
	if found < 50 {
		t.Errorf("only %d equivalences", found)
	}
}

// 8.3: the lesser name first, whichever says "if P then Q".
func TestEquivalences(t *testing.T) {
	swap, plain := "by ann says <C K x0 x1 K x1 x0> uses\n", "by ann says <C x0 x1> uses\n"
	there, back := "by ann says <C x0 N N x0> uses\n", "by bob says <C N N x0 x0> uses gone\ncite 0\n"
	tests := []struct {
		text string
		want [][2]string
	}{
		{"", nil}, {"entry a " + there, nil}, {"entry a " + swap, [][2]string{{"a", "a"}}}, {"entry b " + plain + "entry a " + swap, [][2]string{{"a", "a"}, {"b", "b"}}},
		{"entry a " + there + "entry b " + back, [][2]string{{"a", "b"}}}, {"entry b " + there + "entry a " + back, [][2]string{{"a", "b"}}}, {"entry b " + back + "entry a " + there, [][2]string{{"a", "b"}}},
		{"entry b " + swap + "entry c " + swap + "entry a " + swap, [][2]string{{"a", "a"}, {"a", "b"}, {"a", "c"}, {"b", "b"}, {"b", "c"}, {"c", "c"}}},
		{"entry b " + there + "entry c " + there + "entry a " + back, [][2]string{{"a", "b"}, {"a", "c"}}},
		{"entry n2 " + there + "entry n10 " + back + "entry n_ " + back + "entry n " + plain, [][2]string{{"n", "n"}, {"n10", "n2"}, {"n2", "n_"}}},
		{"entry k by ann says <C x0 C x1 x0> uses\nentry a by ann says <C C x0 x1 x1> uses\nentry c by ann says <C C x0 x1 x0> uses\n", [][2]string{{"a", "k"}}},
	}
	for _, test := range tests {
		if pairs, e := carry.Equivalences(logic(), read(test.text)); e != api.OK || !slices.Equal(pairs, test.want) {
			t.Errorf("Equivalences of %q = %v, %d", test.text, pairs, e)
		}
	}
}

// 8.3: by random libraries, pair by pair.
func TestEquivalencesRandom(t *testing.T) {
	var d sample.Dice
	s, found := logic(), 0
	for range 500 {
		l := library(&d, 12)
		for i := range l {
			if turned, e := carry.Converse(s, l[d.Roll(len(l))].Says); e == api.OK && d.Roll(4) == 0 {
				l[i].Says = turned
			}
		}
		want := [][2]string{}
		for _, x := range l {
			for _, y := range l {
				if x.Name <= y.Name && isEquivalence(s, x.Says, y.Says) {
					want = append(want, [2]string{x.Name, y.Name})
				}
			}
		}
		slices.SortFunc(want, func(x, y [2]string) int { return cmp.Or(cmp.Compare(x[0], y[0]), cmp.Compare(x[1], y[1])) })
		if pairs, e := carry.Equivalences(s, l); e != api.OK || !slices.Equal(pairs, want) {
			t.Errorf("Equivalences of %v = %v, %d; want %v", l, pairs, e, want)
		}
		if slices.ContainsFunc(want, func(pair [2]string) bool { return pair[0] < pair[1] }) {
			found++
		}
	}
	if found < 100 {
		t.Errorf("only %d libraries with equivalences", found)
	}
}

// 8.5: what entries say, and what detachments of two of them, or of one and
// itself, say: each once, in the order of Compare, without what is ErrLimit.
func TestDerived(t *testing.T) {
	big := sample.Tower(30)
	entry := func(name string, says api.Term) api.Entry { return api.Entry{Name: name, By: "ann", Says: says} }
	kk, sk := api.Term{0, -1, 0, -2, 0, -3, -2}, api.Term{0, 0, -1, -2, 0, -1, -1}
	ks := append(api.Term{0, -1, 0, 0, -2, 0, -3, -4, 0}, 0, -2, -3, 0, -2, -4)
	ss := api.Term{0, 0, 0, -1, 0, -2, -3, 0, -1, -2, 0, 0, -1, 0, -2, -3, 0, -1, -3}
	tests := []struct {
		l    []api.Entry
		want []api.Term
	}{
		{nil, nil},
		{[]api.Entry{entry("k", sample.K())}, []api.Term{sample.K(), kk}},
		{[]api.Entry{entry("a", api.Term{2}), entry("b", api.Term{2}), entry("c", api.Term{-1})}, []api.Term{{-1}, {2}}},
		{[]api.Entry{entry("s", sample.S()), entry("k", sample.K())}, []api.Term{sample.K(), kk, sk, sample.S(), ks, ss}},
		{[]api.Entry{entry("a", api.Term{0, -1, 0, -1, -1}), entry("b", big)}, []api.Term{{0, -1, 0, -1, -1}, {0, 0, -1, 0, -1, -1, 0, -1, 0, -1, -1}, big}},
		{[]api.Entry{entry("a", api.Term{0, -1, 0, -1, -1}), entry("b", big[1:])}, []api.Term{{0, -1, 0, -1, -1}, {0, 0, -1, 0, -1, -1, 0, -1, 0, -1, -1}, big[1:], slices.Concat(api.Term{0}, big[1:], big[1:])}},
		{[]api.Entry{entry("a", api.Term{0, 1, -1, 2}), entry("b", api.Term{1, 8})}, []api.Term{{2}, {1, 8}, {0, 1, -1, 2}}},
	}
	for _, test := range tests {
		if said, e := carry.Derived(logic(), test.l); e != api.OK || !sameTerms(said, test.want) {
			t.Errorf("Derived of %v = %v, %d; want %v", test.l, said, e, test.want)
		}
	}
}

// 8.5: there is no limit to the number of statements.
func TestDerivedMany(t *testing.T) {
	l := []api.Entry{}
	for i, name := range sample.Names(60) {
		x := api.Entry{Name: name, By: "ann", Says: sample.Tower(1 + i/2)}
		if i%2 == 0 {
			x.Says = slices.Concat(api.Term{0, -1, 0}, sample.Tower(1+i/2), api.Term{-1})
		}
		l = append(l, x)
	}
	said, e := carry.Derived(logic(), l)
	want := derived(logic(), l)
	if e != api.OK || !sameTerms(said, want) || len(said) < 900 {
		t.Errorf("Derived: %d statements, %d; want %d", len(said), e, len(want))
	}
}

// derived tells by all pairs what is derived.
func derived(s api.Sign, l []api.Entry) []api.Term {
	said := []api.Term{}
	add := func(t api.Term) {
		if !slices.ContainsFunc(said, func(u api.Term) bool { return slices.Equal(t, u) }) {
			said = append(said, t)
		}
	}
	for _, x := range l {
		add(x.Says)
		for _, y := range l {
			if t, e := kernel.Detach(s, x.Says, y.Says); e == api.OK {
				add(t)
			}
		}
	}
	slices.SortFunc(said, term.Compare)
	return said
}

// 8.5: by random libraries. Where there are few statements, they are what is
// reachable at once (layer 4).
func TestDerivedRandom(t *testing.T) {
	var d sample.Dice
	s, few := logic(), 0
	for range 300 {
		l := library(&d, 12)
		said, e := carry.Derived(s, l)
		if want := derived(s, l); e != api.OK || !sameTerms(said, want) {
			t.Errorf("Derived of %v = %v, %d; want %v", l, said, e, want)
		}
		g := []api.Term{}
		for _, x := range l {
			g = append(g, x.Says)
		}
		if reachable, e := kernel.Reachable(s, g, 1); e == api.OK {
			few++
			if !sameTerms(said, reachable) {
				t.Errorf("Derived of %v = %v; reachable: %v", l, said, reachable)
			}
		}
	}
	if few < 100 {
		t.Errorf("only %d with few statements", few)
	}
}
