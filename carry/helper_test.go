package carry_test

import (
	"slices"
	"testing"

	"lemmary/api"
	"lemmary/deps"
	"lemmary/kernel"
	"lemmary/sample"
	"lemmary/term"
)

// logic is the sign of Sign with further symbols, so that there are several of
// each arity.
func logic() api.Sign {
	return append(sample.Sign(), api.Symbol{Name: "K", Arity: 2}, api.Symbol{Name: "A", Arity: 2}, api.Symbol{Name: "M", Arity: 1}, api.Symbol{Name: "g", Arity: 3}, api.Symbol{Name: "F"})
}

// more holds statements of logic that a change of symbols or arguments changes.
func more() []api.Term {
	return []api.Term{
		{0, 4, -1, -2, 4, -2, -1}, {0, 4, -1, -2, -1}, {0, 4, -1, -2, -2}, {0, -1, 0, -2, 4, -1, -2}, {0, -1, 5, -1, -2}, {0, -1, 5, -2, -1}, {4, 1, -1, -2},
		{0, 3, -1, -2, -3, 7, -3, -1, -2}, {3, -1, -1, -2}, {3, 2, -1, 8}, {0, 1, 6, -1, -1}, {0, 2, 8}, {0, 8, -1}, {8}, {0, -1, 1, 6, -1},
	}
}

// says is what random libraries are made with.
func says(g []api.Term, p []api.Step) (api.Term, api.Errno) {
	return kernel.Says(logic(), g, p)
}

// sound returns a random library of logic that is sound.
func sound(d *sample.Dice, most int) []api.Entry {
	return d.Sound(1+d.Roll(most), says, more()...)
}

// library returns a random library of logic of any kind.
func library(d *sample.Dice, most int) []api.Entry {
	if d.Roll(4) == 0 {
		return sound(d, most)
	}
	return d.Library(1+d.Roll(most), says, more()...)
}

// read returns the library of logic that a text is.
func read(text string) []api.Entry {
	l, line, e := deps.Parse(logic(), text)
	if e != api.OK {
		panic("no library from the line " + string(rune('0'+line)) + " on: " + text)
	}
	return l
}

// checkLibrary fails unless a result is a library with a text, or an error.
func checkLibrary(t *testing.T, called string, l []api.Entry, e api.Errno, want string, wrong api.Errno) {
	t.Helper()
	if text := deps.Format(logic(), l); e != wrong || text != want || !deps.Valid(logic(), l) {
		t.Errorf("%s = %d, %q; want %d, %q", called, e, text, wrong, want)
	}
}

// carriedTerm carries a term by its arguments.
func carriedTerm(a api.Sign, d []api.Way, t api.Term) api.Term {
	if t[0] < 0 {
		return t
	}
	args, _ := term.Args(a, t)
	u := api.Term{d[t[0]].To}
	for _, k := range d[t[0]].Args {
		u = append(u, carriedTerm(a, d, args[k])...)
	}
	return u
}

// another returns a sign with the symbols of a sign, but for the first one in
// another order and with other names, and a one-to-one dictionary to it.
func another(d *sample.Dice, a api.Sign) (api.Sign, []api.Way) {
	order := []int{}
	for i := range a[1:] {
		order = append(order, i+1)
	}
	sample.Shuffle(d, order)
	b := slices.Clone(a)
	ways := d.OneToOne(a)
	for i, to := range order {
		b[to] = api.Symbol{Name: "other" + string(rune('a'+i)), Arity: a[i+1].Arity}
	}
	for i, way := range ways[1:] {
		ways[i+1].To = order[way.To-1]
	}
	return b, ways
}

// names returns the names of the entries to which the answer is yes, ascending.
func names(l []api.Entry, asked func(x api.Entry) bool) []string {
	list := []string{}
	for _, x := range l {
		if asked(x) {
			list = append(list, x.Name)
		}
	}
	slices.Sort(list)
	return list
}

func isAxiom(x api.Entry) bool {
	return len(x.Uses) == 0
}

// soundButForLimits reports whether a library is whole, and whatever does not
// hold has a step that is ErrLimit or ErrState.
func soundButForLimits(s api.Sign, l []api.Entry) bool {
	whole, _ := deps.Whole(s, l)
	failing, _ := deps.Failing(s, l)
	return whole && !slices.ContainsFunc(failing, func(name string) bool {
		e := stepError(s, l, name)
		return e != api.ErrLimit && e != api.ErrState
	})
}

// stepError returns why the proof of an entry says nothing, in a library that is
// whole.
func stepError(s api.Sign, l []api.Entry, name string) api.Errno {
	i, _ := deps.Find(s, l, name)
	g := []api.Term{}
	for _, used := range l[i].Uses {
		k, _ := deps.Find(s, l, used)
		g = append(g, l[k].Says)
	}
	_, e := kernel.Says(s, g, l[i].Proof)
	return e
}

func sameTerms(a, b []api.Term) bool {
	return slices.EqualFunc(a, b, func(x, y api.Term) bool { return slices.Equal(x, y) })
}
