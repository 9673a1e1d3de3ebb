package deps_test

import (
	"fmt"
	"slices"
	"testing"

	"lemmary/api"
	"lemmary/deps"
	"lemmary/sample"
)

// input is what a call may use: a sign, a library, another one that has a
// circle, this circle, the name of an entry, an entry, and a term.
type input struct {
	s      api.Sign
	l, c   []api.Entry
	circle []string
	name   string
	x      api.Entry
	t      api.Term
}

// right returns valid input, of which every report is true.
func right() input {
	circle := append(sample.Library(), graph([]string{"b", "a"}, []string{"a", "b"})...)
	return input{s: sample.Sign(), l: sample.Library(), c: circle, circle: []string{"a", "b"}, name: "i", x: sample.Library()[2], t: sample.K()}
}

// calls has all functions that return an error. Their uses are the names of
// fields of input, c for the library with a circle and for the circle.
func calls() []sample.Call[input] {
	return []sample.Call[input]{
		sample.Of("Find", "sl", func(x input) (any, api.Errno) { return deps.Find(x.s, x.l, x.name) }),
		sample.Of("Missing", "sl", func(x input) (any, api.Errno) { return deps.Missing(x.s, x.l) }),
		sample.Of("Circle", "sc", func(x input) (any, api.Errno) { return deps.Circle(x.s, x.c) }),
		sample.Of("Whole", "sl", func(x input) (any, api.Errno) { return deps.Whole(x.s, x.l) }),
		sample.Of("Order", "sl", func(x input) (any, api.Errno) { return deps.Order(x.s, x.l) }),
		sample.Of("Leans", "sl", func(x input) (any, api.Errno) { return deps.Leans(x.s, x.l, x.name) }),
		sample.Of("Users", "sl", func(x input) (any, api.Errno) { return deps.Users(x.s, x.l, x.name) }),
		sample.Of("Axioms", "sl", func(x input) (any, api.Errno) { return deps.Axioms(x.s, x.l, x.name) }),
		sample.Of("Idle", "sl", func(x input) (any, api.Errno) { return deps.Idle(x.s, x.l) }),
		sample.Of("Layers", "sl", func(x input) (any, api.Errno) { return deps.Layers(x.s, x.l) }),
		sample.Of("Holds", "sl", func(x input) (any, api.Errno) { return deps.Holds(x.s, x.l, x.name) }),
		sample.Of("Failing", "sl", func(x input) (any, api.Errno) { return deps.Failing(x.s, x.l) }),
		sample.Of("Sound", "sl", func(x input) (any, api.Errno) { return deps.Sound(x.s, x.l) }),
		sample.Of("Shaken", "sl", func(x input) (any, api.Errno) { return deps.Shaken(x.s, x.l) }),
		sample.Of("Breaks", "slt", func(x input) (any, api.Errno) { return deps.Breaks(x.s, x.l, x.name, x.t) }),
		sample.Of("Loses", "sl", func(x input) (any, api.Errno) { return deps.Loses(x.s, x.l, x.name) }),
		sample.Of("Strongest", "sl", func(x input) (any, api.Errno) { return deps.Strongest(x.s, x.l, x.name) }),
		sample.Of("Parse", "s", func(x input) (any, api.Errno) {
			l, _, e := deps.Parse(x.s, deps.Format(x.s, x.l))
			return l, e
		}),
	}
}

// reports has all functions that only report or write something.
func reports() []sample.Call[input] {
	return []sample.Call[input]{
		sample.Plain("ValidEntry", "sx", func(x input) any { return deps.ValidEntry(x.s, x.x) }),
		sample.Plain("Valid", "sl", func(x input) any { return deps.Valid(x.s, x.l) }),
		sample.Plain("IsCircle", "sc", func(x input) any { return deps.IsCircle(x.s, x.c, x.circle) }),
		sample.Plain("Format", "sl", func(x input) any { return deps.Format(x.s, x.l) }),
	}
}

// wrongInputs returns inputs of which one field that a call uses is wrong.
func wrongInputs(uses string) []input {
	wrong := []input{}
	add := func(change func(x *input)) {
		x := right()
		change(&x)
		wrong = append(wrong, x)
	}
	for _, use := range uses {
		switch use {
		case 's':
			for _, s := range sample.WrongSigns() {
				add(func(x *input) { x.s = s })
				add(func(x *input) {
					v := api.Entry{Name: "i", By: "ann", Says: api.Term{-1}}
					self := api.Entry{Name: "a", By: "ann", Says: v.Says, Uses: []string{"a"}, Proof: sample.Doubling(1)}
					x.s, x.l, x.x, x.t, x.c, x.circle = s, []api.Entry{v}, v, v.Says, []api.Entry{self}, []string{"a"}
				})
			}
		case 'l':
			for _, l := range sample.WrongLibraries() {
				add(func(x *input) { x.l = l })
			}
		case 'c':
			for _, l := range sample.WrongLibraries() {
				add(func(x *input) { x.c = append(x.c[3:], l...) })
			}
		case 'x':
			for _, entry := range sample.WrongEntries() {
				add(func(x *input) { x.x = entry })
			}
		case 't':
			for _, u := range append(sample.WrongTerms(), api.Term{-2}, api.Term{0, -2, -1}) {
				add(func(x *input) { x.t = u })
			}
		}
	}
	return wrong
}

// R1, R3, P6.1: ErrInvalid of 6.1 to 6.4, and the reports, which are false then.
func TestWrongArguments(t *testing.T) {
	sample.Refused(t, calls(), right(), wrongInputs, api.ErrInvalid)
	sample.Refused(t, reports(), right(), wrongInputs, api.OK)
}

// inputs returns valid inputs of many kinds, without empty libraries.
func inputs() []input {
	var d sample.Dice
	all := []input{right()}
	libraries(300, 10, func(l []api.Entry) {
		if len(l) == 0 {
			return
		}
		x := right()
		x.l, x.c, x.x = l, l, l[d.Roll(len(l))]
		x.name, x.t = l[d.Roll(len(l))].Name, another(&d, l)
		x.circle, _ = deps.Circle(x.s, l)
		all = append(all, x)
	})
	return all
}

// roomy copies input into memory with spare capacity that holds what no input
// of a test has.
func roomy(x input) input {
	x.s = sample.Roomy(x.s, api.Symbol{Name: "spare"})
	x.l, x.c = sample.RoomyEntries(x.l), sample.RoomyEntries(x.c)
	x.x = sample.RoomyEntries([]api.Entry{x.x})[0]
	x.circle, x.t = sample.Roomy(x.circle, "spare"), sample.Roomy(x.t, 77)
	return x
}

// all tells everything that input holds, up to the capacities of its lists.
func all(x input) string {
	told := fmt.Sprint(x.s[:cap(x.s)], x.circle[:cap(x.circle)], x.t[:cap(x.t)])
	for _, l := range [][]api.Entry{x.l, x.c, {x.x}} {
		told += sample.AllOfEntries(l, fmt.Sprint)
	}
	return told
}

// R4, R7, P6.1
func TestMemory(t *testing.T) {
	memory := sample.Memory[input]{Roomy: roomy, All: all, Text: fmt.Sprint}
	memory.Unshared(t, slices.Concat(calls(), reports()), inputs())
}

// byIndex holds the names of the functions whose results depend on the order of
// a library.
func byIndex() []string {
	return []string{"Find", "Order", "Layers", "Parse", "Format"}
}

// P6.6: nothing that is told by names changes if a library is in another order.
func TestOrderMeansNothing(t *testing.T) {
	var d sample.Dice
	for _, x := range inputs() {
		y := x
		y.l, y.c = slices.Clone(x.l), slices.Clone(x.c)
		sample.Shuffle(&d, y.l)
		sample.Shuffle(&d, y.c)
		for _, call := range slices.Concat(calls(), reports()) {
			if !slices.Contains(byIndex(), call.Name()) {
				sample.Same(t, call, x, y, fmt.Sprint)
			}
		}
		layers, _ := deps.Layers(x.s, x.l)
		others, _ := deps.Layers(y.s, y.l)
		for i, n := range layers {
			if others[at(y.l, x.l[i].Name)] != n {
				t.Errorf("Layers of %v = %v, but of %v it is %v", x.l, layers, y.l, others)
			}
		}
	}
}

// R4: nil and empty lists are equivalent.
func TestNilAndEmpty(t *testing.T) {
	s := sample.Sign()
	k := api.Entry{Name: "k", By: "ann", Says: sample.K()}
	empty := k
	empty.Uses, empty.Proof = []string{}, []api.Step{}
	for _, x := range []api.Entry{k, empty} {
		l := []api.Entry{x}
		if !deps.ValidEntry(s, x) || deps.Format(s, l) != lineK {
			t.Errorf("%v: %q", x, deps.Format(s, l))
		}
		if names, e := deps.Axioms(s, l, "k"); e != api.OK || !slices.Equal(names, []string{"k"}) {
			t.Errorf("Axioms = %v, %d", names, e)
		}
		if u, e := deps.Strongest(s, l, "k"); e != api.OK || !slices.Equal(u, sample.K()) {
			t.Errorf("Strongest = %v, %d", u, e)
		}
	}
	for _, l := range [][]api.Entry{nil, {}} {
		names, e := deps.Failing(s, l)
		order, f := deps.Order(s, l)
		if len(names) != 0 || e != api.OK || len(order) != 0 || f != api.OK || deps.IsCircle(s, l, nil) {
			t.Errorf("Failing = %v, %d, Order = %v, %d", names, e, order, f)
		}
		if _, e := deps.Circle(s, l); e != api.ErrNone {
			t.Errorf("Circle: %d", e)
		}
	}
}
