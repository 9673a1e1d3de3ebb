package carry_test

import (
	"slices"
	"strings"
	"testing"

	"lemmary/api"
	"lemmary/carry"
	"lemmary/deps"
	"lemmary/sample"
	"lemmary/tongue"
)

// checkOwed fails unless just these axioms are owed, and none is just if m
// models l.
func checkOwed(t *testing.T, a, b api.Sign, d []api.Way, l, m []api.Entry, want []string) {
	t.Helper()
	if owed, e := carry.Owed(a, b, d, l, m); e != api.OK || !slices.Equal(owed, want) {
		t.Errorf("Owed(%v, %v, %v) = %v, %d; want %v", d, l, m, owed, e, want)
	}
	if is, e := carry.Models(a, b, d, l, m); e != api.OK || is != (len(want) == 0) {
		t.Errorf("Models(%v, %v, %v) = %t, %d; owed: %v", d, l, m, is, e, want)
	}
}

// 8.2: with "and", whose arguments are exchanged, as "K" and as "A".
func TestOwed(t *testing.T) {
	a, b := api.Sign{{Name: "C", Arity: 2}, {Name: "K", Arity: 2}}, api.Sign{{Name: "C", Arity: 2}, {Name: "N", Arity: 1}, {Name: "A", Arity: 2}}
	d, _ := tongue.Parse("0:01 2:10")
	left, right := "entry right by ann says <C A x0 x1 x1> uses\n", "entry left by ann says <C A x0 x1 x0> uses\n" // as they are in b
	l, _, _ := deps.Parse(a, "entry theorem by cy says <x0> uses gone\ncite 0\nentry right by ann says <C K x0 x1 x1> uses\nentry left by ann says <C K x0 x1 x0> uses\nentry deep by ann says <C K K x0 x1 x2 x2> uses\n")
	tests := []struct{ m, owed string }{
		{"", "deep left right"}, {left, "deep right"}, {right, "left"}, {left + right, ""}, {"entry any by ann says <x0> uses\n", ""},
		{"entry deep by ann says <C A x0 A x1 x2 x0> uses\n", "left right"},
		{"entry deep by ann says <C A x0 A x1 x2 x0> uses gone\ncite 0\n", "left right"}, // m's entries need not hold
		{"entry deep by ann says <C A A x0 x1 x2 x2> uses\n", "deep left right"},
		{"entry same by ann says <C A x0 x0 x0> uses\n", "deep left right"},
		{"entry left by ann says <C A N x0 x1 N x0> uses\n" + left, "deep right"},
	}
	for _, test := range tests {
		m, _, e := deps.Parse(b, test.m)
		if e != api.OK {
			t.Fatal(test.m)
		}
		checkOwed(t, a, b, d, l, m, strings.Fields(test.owed))
		checkOwed(t, a, b, d, l[:1], m, nil)
		checkOwed(t, a, b, d, nil, m, nil)
	}
	m, _, _ := deps.Parse(b, left)
	checkOwed(t, a, b, d, l[:2], m, []string{"right"})
	checkOwed(t, a, b, d, l[2:3], m, nil)
}

// general returns a term with variables in place of some of its parts.
func general(d *sample.Dice, t api.Term) api.Term {
	if d.Roll(2) == 0 {
		return t
	}
	return sample.Form([]api.Term{{-1}, {0, -1, -2}, t, t}[d.Roll(4)])
}

// models returns a library that is sound and says much of what one of logic says
// when it is carried.
func models(d *sample.Dice, ways []api.Way, l []api.Entry) []api.Entry {
	m := []api.Entry{}
	for i, name := range sample.Names(len(l)) {
		if d.Roll(5) == 0 {
			continue
		}
		u := general(d, carriedTerm(logic(), ways, l[i].Says))
		x := api.Entry{Name: name, By: "ann", Says: sample.Form(u)}
		if d.Roll(3) == 0 {
			m = append(m, api.Entry{Name: "by_" + name, By: "bob", Says: x.Says, Uses: []string{name}, Proof: sample.Doubling(1)})
		}
		m = append(m, x)
	}
	return m
}

// 8.2: by random libraries, against the chapter's words.
func TestOwedRandom(t *testing.T) {
	var dice sample.Dice
	owedSome, owedNone := 0, 0
	journeys(300, 5, func(b api.Sign, d []api.Way, l []api.Entry) {
		m := models(&dice, d, l)
		want := names(l, func(x api.Entry) bool {
			u := carriedTerm(logic(), d, x.Says)
			return isAxiom(x) && !slices.ContainsFunc(m, func(y api.Entry) bool { return sample.Instance(b, y.Says, u) })
		})
		checkOwed(t, logic(), b, d, l, m, want)
		if len(want) > 0 {
			owedSome++
		} else if slices.ContainsFunc(l, isAxiom) {
			owedNone++
		}
	})
	if owedSome < 100 || owedNone < 100 {
		t.Errorf("%d with some, %d with none", owedSome, owedNone)
	}
}

// P8.6: what models a library has no more axioms with it, and is sound.
func TestModelsImported(t *testing.T) {
	var dice sample.Dice
	a := logic()
	done := map[string]int{}
	for range 1000 {
		b, d := another(&dice, a)
		l := sound(&dice, 8)
		m := models(&dice, d, l)
		models, e := carry.Models(a, b, d, l, m)
		carried, f := carry.Carried(a, b, d, l)
		whole, g := carry.Imported(b, m, carried, "p")
		if e != api.OK || f != api.OK || !models || g != api.OK {
			done["not imported"]++
			continue
		}
		if !slices.Equal(names(whole, isAxiom), names(m, isAxiom)) {
			t.Errorf("%v with %v imported has the axioms %v", m, carried, names(whole, isAxiom))
		}
		is, h := deps.Sound(b, whole)
		if h != api.OK || !is && !soundButForLimits(b, whole) {
			t.Errorf("%v with %v imported is %v: %t, %d", m, carried, whole, is, h)
		}
		if !is {
			done["not sound"]++
		} else if len(whole) > len(m) {
			done["sound"]++
		}
	}
	if done["not sound"] < 5 || done["sound"] < 100 {
		t.Errorf("%v", done)
	}
}
