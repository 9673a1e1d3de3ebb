package deps_test

import (
	"slices"
	"testing"

	"lemmary/api"
	"lemmary/deps"
	"lemmary/kernel"
	"lemmary/sample"
	"lemmary/term"
	"lemmary/unify"
)

// proved returns an entry with uses and a proof.
func proved(name string, says api.Term, uses []string, p ...api.Step) api.Entry {
	return api.Entry{Name: name, By: "cy", Says: says, Uses: uses, Proof: p}
}

// standing returns a library with entries that hold, that do not, and that lean
// on such.
func standing() []api.Entry {
	c, d := sample.Cite, sample.Detach
	same, some := api.Term{0, -1, -1}, api.Term{0, -1, -2}
	twice, negation := api.Term{0, -1, 0, -1, -1}, api.Term{0, 1, -1, 1, -1}
	return append(sample.Library(),
		proved("special", negation, []string{"i"}, c(0)),
		proved("general", some, []string{"i"}, c(0)), // fails
		proved("onfail", some, []string{"general"}, c(0)),
		proved("above", some, []string{"onfail", "k"}, c(0)),
		proved("uncited", sample.K(), []string{"k", "above"}, c(0)),
		proved("lacks", sample.K(), []string{"k", "gone"}, c(0)), // fails, as a name is missing
		proved("onlacks", sample.K(), []string{"lacks"}, c(0)),
		proved("state", same, []string{"v", "i"}, c(1), c(0), d(1, 0), c(1)),     // fails: a step that is not needed
		proved("none", same, []string{"special", "t"}, c(0), c(1), d(0, 1)),      // fails
		proved("limit", same, []string{"twice", "great"}, c(0), c(1), d(0, 1)),   // fails
		proved("below", twice, []string{"twice", "great"}, c(1), c(0)),           // holds
		proved("self", some, []string{"self"}, c(0)),                             // holds, and leans on itself
		proved("one", same, []string{"two"}, c(0)),                               // holds, in a circle
		proved("two", same, []string{"one", "general"}, c(0)),                    // holds, shaken
		proved("wide", sample.Chain(sample.Vars(0, 11)...), []string{"i"}, c(0)), // fails
		api.Entry{Name: "v", By: "ann", Says: api.Term{-1}},
		api.Entry{Name: "t", By: "ann", Says: api.Term{2}},
		api.Entry{Name: "twice", By: "ann", Says: twice},
		api.Entry{Name: "great", By: "ann", Says: sample.Tower(30)})
}

// 6.3
func TestHolding(t *testing.T) {
	s, l := sample.Sign(), standing()
	failing := []string{"general", "lacks", "limit", "none", "state", "wide"}
	if names, e := deps.Failing(s, l); e != api.OK || !slices.Equal(names, failing) {
		t.Errorf("Failing = %v, %d", names, e)
	}
	for _, x := range l {
		if is, e := deps.Holds(s, l, x.Name); e != api.OK || is == slices.Contains(failing, x.Name) {
			t.Errorf("Holds(%s) = %t, %d", x.Name, is, e)
		}
	}
	if names, e := deps.Shaken(s, l); e != api.OK || !slices.Equal(names, []string{"above", "one", "onfail", "onlacks", "two", "uncited"}) {
		t.Errorf("Shaken = %v, %d", names, e)
	}
	if is, e := deps.Sound(s, l); is || e != api.OK {
		t.Errorf("Sound = %t, %d", is, e)
	}
}

// 6.3: a step that would say more than 60 numbers says nothing.
func TestStepLimit(t *testing.T) {
	s := sample.Sign()
	for size := 28; size <= 31; size++ {
		l := []api.Entry{
			{Name: "pair", By: "ann", Says: api.Term{0, -1, 0, -1, -1}},
			{Name: "great", By: "ann", Says: sample.Tower(size)},
			proved("both", slices.Concat(api.Term{0}, sample.Tower(29), sample.Tower(29)), []string{"pair", "great"}, sample.Cite(0), sample.Cite(1), sample.Detach(0, 1)),
		}
		is, e := deps.Holds(s, l, "both")
		u, f := deps.Strongest(s, l, "both")
		if e != api.OK || is != (size == 29) || (f == api.OK) != (size <= 29) || size <= 29 && len(u) != 2*size+1 || size > 29 && (f != api.ErrProof || len(u) != 0) {
			t.Errorf("with %d: Holds = %t, %d, Strongest = %v, %d", size, is, e, u, f)
		}
	}
}

// 6.3: libraries that are sound, or not, for one reason alone.
func TestSound(t *testing.T) {
	s := sample.Sign()
	right := [][]api.Entry{nil, {}, sample.Library(), sample.Library()[:2], append(sample.Library(), standing()[3])}
	for _, l := range right {
		if is, e := deps.Sound(s, l); !is || e != api.OK {
			t.Errorf("Sound of %v = %t, %d", l, is, e)
		}
	}
	for _, x := range standing() {
		if slices.Contains([]string{"general", "self", "lacks"}, x.Name) {
			if is, e := deps.Sound(s, append(sample.Library(), x)); is || e != api.OK {
				t.Errorf("Sound with %s = %t, %d", x.Name, is, e)
			}
		}
	}
	if is, e := deps.Sound(s, graph([]string{"a", "b"}, []string{"b", "a"})); is || e != api.OK {
		t.Errorf("Sound of a circle = %t, %d", is, e)
	}
	sound(300, 12, func(l []api.Entry) {
		if is, e := deps.Sound(s, l); !is || e != api.OK {
			t.Errorf("Sound of %v = %t, %d", l, is, e)
		}
	})
}

// 6.3
func TestStrongest(t *testing.T) {
	s, l := sample.Sign(), standing()
	tests := []struct {
		name string
		says api.Term
	}{
		{"k", sample.K()}, {"i", api.Term{0, -1, -1}}, {"special", api.Term{0, -1, -1}}, {"general", api.Term{0, -1, -1}}, {"wide", api.Term{0, -1, -1}},
		{"above", api.Term{0, -1, -2}}, {"uncited", sample.K()}, {"below", api.Term{0, -1, 0, -1, -1}}, {"self", api.Term{0, -1, -2}}, {"great", sample.Tower(30)}, {"v", api.Term{-1}},
	}
	for _, test := range tests {
		if u, e := deps.Strongest(s, l, test.name); e != api.OK || !slices.Equal(u, test.says) {
			t.Errorf("Strongest(%s) = %v, %d", test.name, u, e)
		}
	}
	for _, name := range []string{"lacks", "state", "none", "limit"} {
		if u, e := deps.Strongest(s, l, name); e != api.ErrProof || len(u) != 0 {
			t.Errorf("Strongest(%s) = %v, %d", name, u, e)
		}
	}
}

// 6.3: what breaks is an entry that cites the other one, or itself.
func TestBreaks(t *testing.T) {
	s, l := sample.Sign(), standing()
	same, some := api.Term{0, -1, -1}, api.Term{0, -1, -2}
	tests := []struct {
		name  string
		says  api.Term
		wants []string
	}{
		{"k", same, []string{"i", "uncited"}}, {"k", sample.K(), nil}, {"k", api.Term{0, -1, 0, -2, -3}, nil}, {"s", same, []string{"i"}},
		{"k", api.Term{-1}, nil},
		{"i", some, []string{"i"}}, {"i", same, nil}, {"i", api.Term{2}, []string{"i", "special"}}, {"i", api.Term{0, 1, -1, 1, -1}, nil}, {"i", api.Term{0, 2, 2}, []string{"special"}},
		{"general", same, []string{"onfail"}}, {"general", api.Term{-1}, nil}, // it fails now, so that it does not break
		{"special", api.Term{0, -1, -1}, nil}, {"special", some, []string{"special"}},
		{"self", sample.K(), nil}, {"twice", same, []string{"below"}}, {"one", some, []string{"one"}}, {"one", sample.Tower(9), []string{"one", "two"}}, {"one", api.Term{0, 1, -1, 1, -1}, []string{"two"}},
		{"wide", same, nil}, {"t", same, nil}, {"v", same, nil}, {"lacks", same, []string{"onlacks"}},
	}
	for _, test := range tests {
		if names, e := deps.Breaks(s, l, test.name, test.says); e != api.OK || !slices.Equal(names, test.wants) {
			t.Errorf("Breaks if %s said %v: %v, %d", test.name, test.says, names, e)
		}
	}
	for _, u := range append(sample.WrongTerms(), api.Term{-2}, api.Term{0, -2, -1}) {
		if names, e := deps.Breaks(s, l, "k", u); e != api.ErrInvalid || len(names) != 0 {
			t.Errorf("Breaks if k said %v: %v, %d", u, names, e)
		}
	}
}

// 6.3: what leans on a name, but what stands now alone.
func TestLoses(t *testing.T) {
	s, l := sample.Sign(), standing()
	tests := []struct {
		name  string
		wants []string
	}{
		{"k", []string{"i", "special"}}, {"s", []string{"i", "special"}}, {"i", []string{"special"}}, {"special", nil},
		{"general", nil}, {"onfail", nil}, {"self", nil}, {"twice", []string{"below"}}, {"great", []string{"below"}}, {"t", nil},
	}
	for _, test := range tests {
		if names, e := deps.Loses(s, l, test.name); e != api.OK || !slices.Equal(names, test.wants) {
			t.Errorf("Loses without %s: %v, %d", test.name, names, e)
		}
	}
	circle := graph([]string{"a", "b"}, []string{"b", "a"}, []string{"c", "b"}, []string{"d"})
	for name, wants := range map[string][]string{"a": {"b", "c"}, "b": {"a", "c"}, "c": nil, "d": nil} {
		if names, e := deps.Loses(s, circle, name); e != api.OK || !slices.Equal(names, wants) {
			t.Errorf("Loses without %s: %v, %d", name, names, e)
		}
	}
}

// another returns what an entry could say instead.
func another(d *sample.Dice, l []api.Entry) api.Term {
	u := d.Term(sample.Sign(), 1+d.Roll(9), 3)
	if d.Roll(2) == 0 {
		u = l[d.Roll(len(l))].Says
	}
	return sample.Form(u)
}

// 6.3, P6.4, P6.5: against the chapter's words, entry by entry.
func TestStandingOfAll(t *testing.T) {
	s := sample.Sign()
	var d sample.Dice
	libraries(700, 12, func(l []api.Entry) {
		fails := picked(l, func(x api.Entry) bool { return !holds(l, x) })
		shaken := picked(l, func(x api.Entry) bool { return isShaken(l, x) })
		if names, e := deps.Failing(s, l); e != api.OK || !slices.Equal(names, fails) {
			t.Errorf("Failing of %v = %v, %d", l, names, e)
		}
		if names, e := deps.Shaken(s, l); e != api.OK || !slices.Equal(names, shaken) {
			t.Errorf("Shaken of %v = %v, %d", l, names, e)
		}
		whole, _ := deps.Whole(s, l)
		if is, e := deps.Sound(s, l); e != api.OK || is != (whole && len(fails) == 0) {
			t.Errorf("Sound of %v = %t, %d", l, is, e)
		}
		for i, x := range l {
			u, e := deps.Strongest(s, l, x.Name)
			is, f := deps.Holds(s, l, x.Name)
			if is != holds(l, x) || f != api.OK || is != (e == api.OK && unify.Instance(s, u, x.Says)) || e != api.OK && e != api.ErrProof {
				t.Errorf("%s of %v: Holds = %t, %d, Strongest = %v, %d", x.Name, l, is, f, u, e)
			}
			say := another(&d, l)
			other := with(l, i, func(x *api.Entry) { x.Says = say })
			breaks := picked(l, func(x api.Entry) bool { return holds(l, x) && !holds(other, other[at(l, x.Name)]) })
			if names, e := deps.Breaks(s, l, x.Name, say); e != api.OK || !slices.Equal(names, breaks) {
				t.Errorf("Breaks if %s said %v in %v: %v, %d", x.Name, say, l, names, e)
			}
			fewer := without(l, i)
			stands := func(l []api.Entry, x api.Entry) bool { return holds(l, x) && !isShaken(l, x) }
			loses := picked(fewer, func(x api.Entry) bool { return stands(l, x) && !stands(fewer, x) })
			if names, e := deps.Loses(s, l, x.Name); e != api.OK || !slices.Equal(names, loses) {
				t.Errorf("Loses without %s in %v: %v, %d", x.Name, l, names, e)
			}
		}
	})
}

// P6.5: what says something more general breaks nothing but itself, where no
// step becomes ErrLimit or ErrState.
func TestMoreGeneral(t *testing.T) {
	s := sample.Sign()
	var d sample.Dice
	broken := 0
	sound(2000, 12, func(l []api.Entry) {
		i := d.Roll(len(l))
		parts, _ := term.Parts(s, l[i].Says)
		paths, _ := term.Paths(s, l[i].Says, parts[d.Roll(len(parts))])
		more, _ := term.Put(s, l[i].Says, paths[d.Roll(len(paths))], api.Term{-12})
		more = sample.Form(more)
		names, e := deps.Breaks(s, l, l[i].Name, more)
		if e != api.OK {
			t.Errorf("Breaks: %d", e)
		}
		other := with(l, i, func(x *api.Entry) { x.Says = more })
		for _, name := range names {
			if name == l[i].Name {
				broken++
			} else if e := stepError(other, name); e != api.ErrLimit && e != api.ErrState {
				t.Errorf("%s breaks if %s says %v in %v", name, l[i].Name, more, l)
			}
		}
	})
	if broken < 100 {
		t.Errorf("only %d entries break", broken)
	}
}

// stepError returns why the proof of an entry says nothing.
func stepError(l []api.Entry, name string) api.Errno {
	g := []api.Term{}
	x := l[at(l, name)]
	for _, name := range x.Uses {
		g = append(g, l[at(l, name)].Says)
	}
	_, _, e := kernel.Run(sample.Sign(), g, x.Proof)
	return e
}
