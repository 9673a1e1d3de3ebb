package blame_test

import (
	"fmt"
	"slices"
	"testing"

	"lemmary/api"
	"lemmary/blame"
	"lemmary/sample"
)

// input is what a call may use: a sign, an edition, a library, three editions to
// merge, two changes that can be made in the edition, changes from the empty
// edition on, a person, the name of an entry, a number of changes, and a term.
type input struct {
	s          api.Sign
	l, m       []api.Entry
	base, a, b []api.Entry
	c, d       api.Change
	list       []api.Change
	by, name   string
	n          int
	t          api.Term
}

// right returns valid input, of which every report is true.
func right() input {
	return input{
		s: sample.Sign(), l: written("k/bob s"), m: sample.Library(), base: written("a b"), a: written("a! b"), b: written("a b c"),
		c: change("add ann a"), d: change("set bob k!"), list: changes("add ann k; add bob i!:k; set cy k!; name cy i id"), by: "bob", name: "k", n: 2, t: sample.K(),
	}
}

// calls has all functions that return an error. Their uses are the names of
// fields of input: z for the list of changes, y for the person, 1 to 3 for the
// editions to merge.
func calls() []sample.Call[input] {
	return []sample.Call[input]{
		sample.Of("Sorted", "sm", func(x input) (any, api.Errno) { return blame.Sorted(x.s, x.m) }),
		sample.Of("Made", "slc", func(x input) (any, api.Errno) { return blame.Made(x.s, x.l, x.c) }),
		sample.Of("Played", "slc", func(x input) (any, api.Errno) {
			l, i, e := blame.Played(x.s, x.l, []api.Change{x.c, x.d})
			return []any{l, i}, e
		}),
		sample.Of("Played of all", "sz", func(x input) (any, api.Errno) {
			l, i, e := blame.Played(x.s, nil, x.list)
			return []any{l, i}, e
		}),
		sample.Of("Undone", "slc", func(x input) (any, api.Errno) { return blame.Undone(x.s, x.l, x.c) }),
		sample.Of("Undone of d", "sld", func(x input) (any, api.Errno) { return blame.Undone(x.s, x.l, x.d) }),
		sample.Of("Difference", "s12y", func(x input) (any, api.Errno) { return blame.Difference(x.s, x.base, x.a, x.by) }),
		sample.Of("Blame", "sz", func(x input) (any, api.Errno) { return blame.Blame(x.s, x.list) }),
		sample.Of("By", "sly", func(x input) (any, api.Errno) { return blame.By(x.s, x.l, x.by) }),
		sample.Of("History", "sz", func(x input) (any, api.Errno) { return blame.History(x.s, x.list, x.name) }),
		sample.Of("Conflicts", "s123", func(x input) (any, api.Errno) { return blame.Conflicts(x.s, x.base, x.a, x.b) }),
		sample.Of("Merged", "s123", func(x input) (any, api.Errno) { return blame.Merged(x.s, x.base, x.a, x.b) }),
		sample.Of("Apart", "slcd", func(x input) (any, api.Errno) { return blame.Apart(x.s, x.l, x.c, x.d) }),
		sample.Of("At", "sz", func(x input) (any, api.Errno) { return blame.At(x.s, x.list, x.n) }),
		sample.Of("First", "szt", func(x input) (any, api.Errno) { return blame.First(x.s, x.list, x.t) }),
	}
}

// reports has all functions that only report something, but Same, which takes
// entries of any kind.
func reports() []sample.Call[input] {
	return []sample.Call[input]{
		sample.Plain("Edition", "sl", func(x input) any { return blame.Edition(x.s, x.l) }),
		sample.Plain("Valid", "sc", func(x input) any { return blame.Valid(x.s, x.c) }),
		sample.Plain("Valid of d", "sd", func(x input) any { return blame.Valid(x.s, x.d) }),
	}
}

// wrongEditions holds lists of entries that are no editions.
func wrongEditions() [][]api.Entry {
	wrong := [][]api.Entry{written("s k"), written("k k"), written("a b a"), axioms(61)}
	for _, l := range sample.WrongLibraries() {
		slices.SortFunc(l, byName)
		wrong = append(wrong, l)
	}
	return wrong
}

// wrongInputs returns inputs of which one field that a call uses is wrong.
func wrongInputs(uses string) []input {
	return sample.Changed(uses, right, wrongs)
}

// wrongs has what makes a field of right input wrong.
func wrongs(use rune) []func(x *input) {
	list := []func(x *input){}
	add := func(change func(x *input)) { list = append(list, change) }
	switch use {
	case 's':
		v := api.Entry{Name: "v", By: "ann", Says: api.Term{-1}}
		for _, s := range sample.WrongSigns() {
			add(func(x *input) { x.s = s })
			add(func(x *input) {
				l := []api.Entry{v}
				*x = input{s: s, l: l, m: l, base: l, a: l, b: l, c: change("drop ann v"), d: change("name ann v w"), by: "ann", name: "v", t: v.Says}
			})
		}
	case 'l', '1', '2', '3':
		for _, l := range wrongEditions() {
			add(func(x *input) { *map[rune]*[]api.Entry{'l': &x.l, '1': &x.base, '2': &x.a, '3': &x.b}[use] = l })
		}
	case 'm':
		for _, l := range sample.WrongLibraries() {
			add(func(x *input) { x.m = l })
		}
	case 'c', 'd':
		for _, c := range wrongChanges() {
			add(func(x *input) { *map[rune]*api.Change{'c': &x.c, 'd': &x.d}[use] = c })
		}
	case 'z':
		for _, c := range wrongChanges() {
			for i := range right().list {
				add(func(x *input) { x.list[i] = c })
			}
		}
	case 'y':
		for _, name := range sample.WrongNames() {
			add(func(x *input) { x.by = name })
		}
	case 't':
		for _, u := range sample.WrongTerms() {
			add(func(x *input) { x.t = u })
		}
	}
	return list
}

// R1, R3, P9.1: ErrInvalid of 9.1 to 9.4, and the reports, which are false then.
func TestWrongArguments(t *testing.T) {
	sample.Refused(t, calls(), right(), wrongInputs, api.ErrInvalid)
	sample.Refused(t, reports(), right(), wrongInputs, api.OK)
}

// 9.1 to 9.4: ErrInvalid comes ahead of all errors that would be there, too.
func TestInvalidFirst(t *testing.T) {
	s := sample.Sign()
	for _, name := range sample.WrongNames() {
		if list, e := blame.Difference(s, written("a b"), written("b:a"), name); e != api.ErrInvalid || len(list) != 0 {
			t.Errorf("Difference by %q = %v, %d", name, list, e)
		}
	}
	for _, l := range wrongEditions() {
		for _, sides := range [][3][]api.Entry{{l, axioms(60), written("a00 b")}, {nil, l, written("a")}, {nil, written("a"), l}} {
			if merge, e := blame.Merged(s, sides[0], sides[1], sides[2]); e != api.ErrInvalid || len(merge) != 0 {
				t.Errorf("Merged = %v, %d", merge, e)
			}
		}
		for _, text := range []string{"drop ann gone", "name ann gone a", "set ann gone"} {
			made, e := blame.Made(s, l, change(text))
			undone, f := blame.Undone(s, l, change(text))
			if len(made) != 0 || e != api.ErrInvalid || undone.Kind != 0 || f != api.ErrInvalid {
				t.Errorf("%s: made %v, %d; undone: %v, %d", text, made, e, undone, f)
			}
		}
	}
	for _, c := range wrongChanges() {
		list := []api.Change{change("drop ann gone"), c}
		for _, name := range []string{"", "gone"} {
			if history, e := blame.History(s, list, name); e != api.ErrInvalid || len(history) != 0 {
				t.Errorf("History of %v = %v, %d", list, history, e)
			}
		}
		for _, n := range []int{-1, 0, 1, 3} {
			if l, e := blame.At(s, list, n); e != api.ErrInvalid || len(l) != 0 {
				t.Errorf("At(%v, %d) = %v, %d", list, n, l, e)
			}
		}
		if is, e := blame.Apart(s, nil, list[0], c); e != api.ErrInvalid || is {
			t.Errorf("Apart(%v) = %t, %d", list, is, e)
		}
	}
}

// 9.3: the errors of Played, ahead of ErrName, and ErrRange of many changes.
func TestErrorsOfPlayed(t *testing.T) {
	s := sample.Sign()
	many := slices.Repeat(changes("add ann a; drop ann a"), 101)[:201]
	for _, list := range [][]api.Change{many, append(many, many...), changes("add ann a; add ann a"), changes("add ann a; set ann b; add ann a"), changes("add ann a; drop ann a; set ann a")} {
		_, _, want := blame.Played(s, nil, list)
		if want == api.OK || len(list) > 200 && want != api.ErrRange {
			t.Errorf("Played of %d changes: %d", len(list), want)
		}
		marks, e := blame.Blame(s, list)
		history, f := blame.History(s, list, "gone")
		n, g := blame.First(s, list, sample.K())
		l, h := blame.At(s, list, len(list))
		if e != want || f != want || g != want || h != want || len(marks)+len(history)+n+len(l) > 0 {
			t.Errorf("of %d changes: %v, %d; %v, %d; %d, %d; %v, %d; want %d", len(list), marks, e, history, f, n, g, l, h, want)
		}
		_, e = blame.First(s, list, api.Term{0})
		_, f = blame.First(s, list, api.Term{2})
		if e != api.ErrInvalid || f != want {
			t.Errorf("First: %d, %d; want %d", e, f, want)
		}
	}
}

// inputs returns valid inputs of many kinds, most of which have results.
func inputs() []input {
	var d sample.Dice
	all := []input{right()}
	for range 80 {
		x := right()
		x.base, x.a = pair(&d)
		x.b = x.base
		x.l = slices.Concat(x.a, axioms(1))
		slices.SortFunc(x.l, byName)
		x.m = slices.Clone(x.l)
		sample.Shuffle(&d, x.m)
		x.list, _ = story(&d, 20)
		x.c, x.d = dealtChange(&d, x.l), dealtChange(&d, x.l)
		x.by, x.name, x.n = "ann", x.l[d.Roll(len(x.l))].Name, d.Roll(len(x.list)+1)
		if made, e := after(x.b, dealtChange(&d, x.b)); e == api.OK {
			x.b = made
		}
		all = append(all, x)
	}
	return all
}

// roomyChange copies a change into memory with spare capacity that holds what no
// input of a test has.
func roomyChange(c api.Change) api.Change {
	c.Entry = sample.RoomyEntries([]api.Entry{c.Entry})[0]
	return c
}

// roomy copies input into memory with spare capacity that holds what no input of
// a test has.
func roomy(x input) input {
	x.s, x.t = sample.Roomy(x.s, api.Symbol{Name: "spare"}), sample.Roomy(x.t, 77)
	for _, l := range []*[]api.Entry{&x.l, &x.m, &x.base, &x.a, &x.b} {
		*l = sample.RoomyEntries(*l)
	}
	x.c, x.d = roomyChange(x.c), roomyChange(x.d)
	x.list = sample.Roomy(x.list, api.Change{Kind: 99})
	for i, c := range x.list {
		x.list[i] = roomyChange(c)
	}
	return x
}

// all tells everything that input holds, up to the capacities of its lists.
func all(x input) string {
	told := fmt.Sprint(x.s[:cap(x.s)], x.t[:cap(x.t)])
	for _, l := range [][]api.Entry{x.l, x.m, x.base, x.a, x.b} {
		told += sample.AllOfEntries(l, fmt.Sprint)
	}
	for _, c := range append([]api.Change{x.c, x.d}, x.list[:cap(x.list)]...) {
		told += fmt.Sprint(c.Kind, c.By, c.Name, c.New) + sample.AllOfEntries([]api.Entry{c.Entry}, fmt.Sprint)
	}
	return told
}

// R4, R7, P9.1
func TestMemory(t *testing.T) {
	memory := sample.Memory[input]{Roomy: roomy, All: all, Text: fmt.Sprint}
	memory.Unshared(t, slices.Concat(calls(), reports()), inputs())
}

// R4: nil and empty lists are equivalent.
func TestNilAndEmpty(t *testing.T) {
	for _, call := range slices.Concat(calls(), reports()) {
		x, y := right(), right()
		x.l, x.m, x.base, x.a, x.b, x.list = nil, nil, nil, nil, nil, nil
		y.l, y.m, y.base, y.a, y.b, y.list = []api.Entry{}, []api.Entry{}, []api.Entry{}, []api.Entry{}, []api.Entry{}, []api.Change{}
		x.n, y.n = 0, 0
		sample.Same(t, call, x, y, fmt.Sprint)
		y = right()
		y.l, y.a, y.c.Entry, y.d.Entry = full(y.l), full(y.a), full([]api.Entry{y.c.Entry})[0], full([]api.Entry{y.d.Entry})[0]
		sample.Same(t, call, right(), y, fmt.Sprint)
	}
	s := sample.Sign()
	if l, i, e := blame.Played(s, nil, nil); len(l) != 0 || i != -1 || e != api.OK {
		t.Errorf("Played = %v, %d, %d", l, i, e)
	}
	if l, e := blame.Made(s, written("k"), api.Change{Kind: api.CSet, By: "ann", Entry: full(written("k"))[0]}); e != api.ErrNone || len(l) != 0 {
		t.Errorf("Made = %v, %d", l, e)
	}
	if list, e := blame.Difference(s, full(written("k s")), written("k s"), "ann"); e != api.OK || len(list) != 0 {
		t.Errorf("Difference = %v, %d", list, e)
	}
	if names, e := blame.Conflicts(s, written("k"), full(written("k")), written("k!")); e != api.OK || len(names) != 0 {
		t.Errorf("Conflicts = %v, %d", names, e)
	}
}

// full returns entries of which no list is nil.
func full(l []api.Entry) []api.Entry {
	entries := slices.Clone(l)
	for i, x := range entries {
		entries[i].Says, entries[i].Uses, entries[i].Proof = append(api.Term{}, x.Says...), append([]string{}, x.Uses...), append([]api.Step{}, x.Proof...)
	}
	return entries
}
