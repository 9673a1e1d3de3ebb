package carry_test

import (
	"fmt"
	"slices"
	"testing"

	"lemmary/api"
	"lemmary/carry"
	"lemmary/sample"
)

// input is what a call may use: signs, a dictionary from a to b, two libraries of
// a and one of b, a prefix, terms, names of entries, a new name and a person's
// name, and an entry.
type input struct {
	a, b               api.Sign
	d                  []api.Way
	l, m, n            []api.Entry
	prefix             string
	t, u               api.Term
	along, other, name string
	first, second      string
	new, by            string
	x                  api.Entry
}

// right returns valid input, of which all calls have results.
func right() input {
	s := sample.Sign()
	return input{
		a: s, b: s, d: sample.RightWays(), l: sample.Library(), m: sample.Library(), n: append(sample.Library(), api.Entry{Name: "turn", By: "cy", Says: api.Term{0, -1, -2}}),
		prefix: "p", t: sample.K(), u: api.Term{0, 0, -1, -2, -2}, along: "k", other: "k", name: "i", first: "k", second: "i", new: "new", by: "cy",
		x: api.Entry{Name: "x", By: "cy", Says: sample.K(), Uses: []string{"k"}, Proof: sample.Doubling(1)},
	}
}

// calls has all functions. Their uses are the names of fields of input, p for
// the prefix, y for the new name, and z for the person's.
func calls() []sample.Call[input] {
	return []sample.Call[input]{
		sample.Of("Carried", "abdl", func(x input) (any, api.Errno) { return carry.Carried(x.a, x.b, x.d, x.l) }),
		sample.Of("Prefixed", "alp", func(x input) (any, api.Errno) { return carry.Prefixed(x.a, x.l, x.prefix) }),
		sample.Of("Met", "alm", func(x input) (any, api.Errno) { return carry.Met(x.a, x.l, x.m) }),
		sample.Of("Imported", "almp", func(x input) (any, api.Errno) { return carry.Imported(x.a, x.l, x.m, x.prefix) }),
		sample.Of("Models", "abdln", func(x input) (any, api.Errno) { return carry.Models(x.a, x.b, x.d, x.l, x.n) }),
		sample.Of("Owed", "abdln", func(x input) (any, api.Errno) { return carry.Owed(x.a, x.b, x.d, x.l, x.n) }),
		sample.Of("Converse", "at", func(x input) (any, api.Errno) { return carry.Converse(x.a, x.t) }),
		sample.Of("Equivalence", "atu", func(x input) (any, api.Errno) { return carry.Equivalence(x.a, x.t, x.u) }),
		sample.Of("Equivalences", "al", func(x input) (any, api.Errno) { return carry.Equivalences(x.a, x.l) }),
		sample.Of("Along", "al", func(x input) (any, api.Errno) { return carry.Along(x.a, x.l, x.along, x.name) }),
		sample.Of("Moved", "alyz", func(x input) (any, api.Errno) { return carry.Moved(x.a, x.l, x.along, x.name, x.new, x.by) }),
		sample.Of("Chain", "alyz", func(x input) (any, api.Errno) { return carry.Chain(x.a, x.l, x.first, x.second, x.new, x.by) }),
		sample.Of("There", "al", func(x input) (any, api.Errno) { return carry.There(x.a, x.l, x.along, x.other, x.name) }),
		sample.Of("Derived", "al", func(x input) (any, api.Errno) { return carry.Derived(x.a, x.l) }),
		sample.Of("Added", "alx", func(x input) (any, api.Errno) { return carry.Added(x.a, x.l, x.x) }),
	}
}

// wrongInputs returns inputs of which one field that a call uses is wrong.
func wrongInputs(uses string) []input {
	return sample.Changed(uses, right, wrongs)
}

// wrongs has what makes a field of right input wrong.
func wrongs(use rune) []func(x *input) {
	list := []func(x *input){}
	add := func(change func(x *input)) { list = append(list, change) }
	switch use {
	case 'a':
		v := api.Entry{Name: "v", By: "ann", Says: api.Term{-1}}
		for _, s := range sample.WrongSigns() {
			add(func(x *input) { x.a = s })
			add(func(x *input) { x.a, x.l, x.m, x.t, x.u = s, []api.Entry{v}, nil, v.Says, v.Says })
			add(func(x *input) { x.a, x.l, x.m, x.d = s, nil, nil, make([]api.Way, len(s)) })
		}
	case 'b':
		for _, s := range sample.WrongSigns() {
			add(func(x *input) { x.b, x.n = s, nil })
		}
	case 'd':
		for _, d := range sample.WrongWays() {
			add(func(x *input) { x.d = d })
			add(func(x *input) { x.d, x.l, x.n = d, nil, nil })
		}
	case 'l', 'm', 'n':
		for _, l := range sample.WrongLibraries() {
			add(func(x *input) { *map[rune]*[]api.Entry{'l': &x.l, 'm': &x.m, 'n': &x.n}[use] = l })
		}
	case 'p', 'y', 'z':
		for _, name := range sample.WrongNames() {
			add(func(x *input) { *map[rune]*string{'p': &x.prefix, 'y': &x.new, 'z': &x.by}[use] = name })
		}
	case 't', 'u':
		for _, u := range sample.WrongTerms() {
			add(func(x *input) { *map[rune]*api.Term{'t': &x.t, 'u': &x.u}[use] = u })
		}
	case 'x':
		for _, entry := range sample.WrongEntries() {
			add(func(x *input) { x.x = entry })
		}
	}
	return list
}

// R1, R3, P8.1: ErrInvalid of 8.1 to 8.5.
func TestWrongArguments(t *testing.T) {
	sample.Refused(t, calls(), right(), wrongInputs, api.ErrInvalid)
}

// 8.1, 8.2, 8.4: ErrInvalid comes ahead of all errors that would be there, too.
func TestInvalidFirst(t *testing.T) {
	s, full := sample.Sign(), axioms(60)
	for _, l := range sample.WrongLibraries() {
		if got, e := carry.Imported(s, full, l, "p"); e != api.ErrInvalid || len(got) != 0 {
			t.Errorf("Imported: %d entries, %d", len(got), e)
		}
		if got, e := carry.Prefixed(s, l, "sixteen_letters_"); e != api.ErrInvalid || len(got) != 0 {
			t.Errorf("Prefixed: %d entries, %d", len(got), e)
		}
		for _, name := range []string{"", "gone"} {
			if u, e := carry.Along(s, l, name, name); e != api.ErrInvalid || len(u) != 0 {
				t.Errorf("Along: %v, %d", u, e)
			}
			if u, e := carry.There(s, l, name, name, name); e != api.ErrInvalid || len(u) != 0 {
				t.Errorf("There: %v, %d", u, e)
			}
		}
	}
	for _, u := range sample.WrongTerms() {
		for _, name := range []string{"n0", "x"} {
			if got, e := carry.Added(s, full, api.Entry{Name: name, By: "ann", Says: u}); e != api.ErrInvalid || len(got) != 0 {
				t.Errorf("Added what says %v: %d entries, %d", u, len(got), e)
			}
		}
	}
	for _, name := range sample.WrongNames() {
		for _, l := range [][]api.Entry{full, nil} {
			got, e := carry.Imported(s, full, l, name)
			also, f := carry.Prefixed(s, l, name)
			if e != api.ErrInvalid || f != api.ErrInvalid || len(got)+len(also) != 0 {
				t.Errorf("under %q Imported: %d entries, %d, Prefixed: %d entries, %d", name, len(got), e, len(also), f)
			}
		}
	}
	for _, u := range sample.WrongTerms() {
		if is, e := carry.Equivalence(s, api.Term{-1}, u); e != api.ErrInvalid || is {
			t.Errorf("Equivalence with %v = %t, %d", u, is, e)
		}
	}
}

// inputs returns valid inputs of many kinds, most of which have results.
func inputs() []input {
	var d sample.Dice
	all := []input{right()}
	for range 300 {
		x := input{a: logic(), l: meeting(&d, library(&d, 9)), m: library(&d, 9), prefix: "p", new: "new", by: "cy"}
		x.b, x.d = another(&d, x.a)
		x.n = models(&d, x.d, x.l)
		x.l = append(x.l, api.Entry{Name: "k", By: "ann", Says: sample.K()}, api.Entry{Name: "s", By: "ann", Says: sample.S()})
		name := func() string { return x.l[d.Roll(len(x.l))].Name }
		x.along, x.other, x.name, x.first, x.second = name(), name(), name(), name(), name()
		x.t = slices.Concat(api.Term{0}, d.Term(x.a, 5, 2), d.Term(x.a, 5, 2))
		x.u, _ = carry.Converse(x.a, x.t)
		x.x = api.Entry{Name: "x", By: "cy", Says: sample.K(), Uses: []string{name(), "gone"}, Proof: sample.Doubling(1 + d.Roll(5))}
		all = append(all, x)
	}
	return all
}

// roomy copies input into memory with spare capacity that holds what no input
// of a test has.
func roomy(x input) input {
	x.a, x.b = sample.Roomy(x.a, api.Symbol{Name: "spare"}), sample.Roomy(x.b, api.Symbol{Name: "spare"})
	x.d = sample.Roomy(x.d, api.Way{To: 99})
	for i, way := range x.d {
		x.d[i].Args = sample.Roomy(way.Args, 77)
	}
	x.l, x.m, x.n = sample.RoomyEntries(x.l), sample.RoomyEntries(x.m), sample.RoomyEntries(x.n)
	x.t, x.u = sample.Roomy(x.t, 77), sample.Roomy(x.u, 77)
	x.x = sample.RoomyEntries([]api.Entry{x.x})[0]
	return x
}

// all tells everything that input holds, up to the capacities of its lists.
func all(x input) string {
	told := fmt.Sprint(x.a[:cap(x.a)], x.b[:cap(x.b)], x.t[:cap(x.t)], x.u[:cap(x.u)])
	for _, way := range x.d[:cap(x.d)] {
		told += fmt.Sprint(way.To, way.Args[:cap(way.Args)])
	}
	for _, l := range [][]api.Entry{x.l, x.m, x.n, {x.x}} {
		told += sample.AllOfEntries(l, fmt.Sprint)
	}
	return told
}

// R4, R7, P8.1
func TestMemory(t *testing.T) {
	memory := sample.Memory[input]{Roomy: roomy, All: all, Text: fmt.Sprint}
	memory.Unshared(t, calls(), inputs())
}

// R4: nil and empty lists are equivalent.
func TestNilAndEmpty(t *testing.T) {
	s := sample.Sign()
	for _, l := range [][]api.Entry{nil, {}} {
		x := right()
		x.l, x.m, x.n = l, l, l
		for _, call := range calls() {
			y := x
			y.l, y.m, y.n = []api.Entry{}, nil, []api.Entry{}
			sample.Same(t, call, x, y, fmt.Sprint)
		}
		if owed, e := carry.Owed(s, s, sample.RightWays(), l, l); e != api.OK || len(owed) != 0 {
			t.Errorf("Owed = %v, %d", owed, e)
		}
		if is, e := carry.Models(s, s, sample.RightWays(), l, l); e != api.OK || !is {
			t.Errorf("Models = %t, %d", is, e)
		}
		if pairs, e := carry.Equivalences(s, l); e != api.OK || len(pairs) != 0 {
			t.Errorf("Equivalences = %v, %d", pairs, e)
		}
	}
	k := api.Entry{Name: "a", By: "ann", Says: sample.K()}
	empty := k
	empty.Uses, empty.Proof = []string{}, []api.Step{}
	for _, x := range []api.Entry{k, empty} {
		if names, e := carry.Met(s, sample.Library(), []api.Entry{x}); e != api.OK || !slices.Equal(names, []string{"a"}) {
			t.Errorf("Met = %v, %d", names, e)
		}
		if got, e := carry.Imported(s, nil, []api.Entry{x}, "p"); e != api.OK || len(got) != 1 || len(got[0].Uses) != 0 || len(got[0].Proof) != 0 {
			t.Errorf("Imported = %v, %d", got, e)
		}
	}
}
