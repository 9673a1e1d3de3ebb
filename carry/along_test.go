package carry_test

import (
	"slices"
	"strings"
	"testing"

	"lemmary/api"
	"lemmary/carry"
	"lemmary/deps"
	"lemmary/kernel"
	"lemmary/sample"
	"lemmary/tongue"
)

// roads is a library along whose entries statements go, or do not. With a, great
// has 30 numbers, and less has 29; round has 12 variables.
func roads() []api.Entry {
	less := strings.Repeat("N ", 28) + "T"
	text := strings.NewReplacer("GREAT", "N "+less, "LESS", less).Replace(`entry k by ann says <C x0 C x1 x0> uses
entry same by ann says <C x0 x0> uses
entry any by ann says <C x0 x1> uses
entry minus by bob says <C N x0 M x0> uses gone
cite 0
entry plus by bob says <C M x0 N N x0> uses
entry n by ann says <N x0> uses
entry nt by ann says <N T> uses
entry v by ann says <x0> uses
entry twice by ann says <C x0 A x0 x0> uses
entry great by ann says <GREAT> uses
entry less by ann says <LESS> uses
entry round by ann says <C x0 C x1 C x2 C x3 C x4 C x5 C x6 C x7 C x8 C x9 C x10 C x11 x0> uses
entry left by ann says <C K x0 T A x1 x0> uses
entry kt by ann says <K F T> uses
`)
	return read(text)
}

// checkSays fails unless a result is a term that is written so in Polish, or an
// error.
func checkSays(t *testing.T, called string, u api.Term, e api.Errno, want string, wrong api.Errno) {
	t.Helper()
	text := ""
	if len(u) > 0 {
		text, _ = tongue.Write(logic(), 1, u)
	}
	if e != wrong || text != want {
		t.Errorf("%s = %q, %d; want %q, %d", called, text, e, want, wrong)
	}
}

// moves tells what entries of roads become along others, or why they do not. The
// chapter's example comes first.
func moves() []struct {
	along, name, want string
	e                 api.Errno
} {
	less := strings.Repeat("N ", 28) + "T"
	return []struct {
		along, name, want string
		e                 api.Errno
	}{
		{"k", "same", "C x0 C x1 x1", api.OK}, {"k", "k", "C x0 C x1 C x2 x1", api.OK}, {"same", "same", "C x0 x0", api.OK}, {"same", "k", "C x0 C x1 x0", api.OK},
		{"any", "k", "x0", api.OK}, {"any", "any", "x0", api.OK}, {"minus", "n", "M x0", api.OK}, {"minus", "nt", "M T", api.OK}, {"minus", "v", "M x0", api.OK}, {"left", "kt", "A x0 F", api.OK},
		{"left", "v", "A x0 x1", api.OK}, {"twice", "less", "A " + less + " " + less, api.OK}, {"round", "same", "C x0 C x1 C x2 C x3 C x4 C x5 C x6 C x7 C x8 C x9 C x10 C x11 x11", api.OK},
		{"n", "k", "", api.ErrState}, {"v", "k", "", api.ErrState}, {"v", "v", "", api.ErrState}, {"kt", "n", "", api.ErrState}, {"great", "great", "", api.ErrState},
		{"minus", "k", "", api.ErrNone}, {"plus", "n", "", api.ErrNone}, {"minus", "minus", "", api.ErrNone}, {"left", "n", "", api.ErrNone},
		{"twice", "great", "", api.ErrLimit}, {"round", "any", "", api.ErrLimit}, {"round", "round", "", api.ErrLimit},
	}
}

// 8.4
func TestAlong(t *testing.T) {
	for _, move := range moves() {
		u, e := carry.Along(logic(), roads(), move.along, move.name)
		checkSays(t, "Along "+move.along+" of "+move.name, u, e, move.want, move.e)
	}
}

// 8.4: the entry cites both, or the only one, and says what there is along.
func TestMoved(t *testing.T) {
	c, d := sample.Cite, sample.Detach
	for _, move := range moves() {
		x, e := carry.Moved(logic(), roads(), move.along, move.name, "new_1", "k")
		checkSays(t, "Moved along "+move.along+" of "+move.name, x.Says, e, move.want, move.e)
		want := api.Entry{}
		if e == api.OK {
			want = api.Entry{Name: "new_1", By: "k", Says: x.Says, Uses: []string{move.along, move.name}, Proof: []api.Step{c(0), c(1), d(0, 1)}}
			if move.along == move.name {
				want.Uses, want.Proof = want.Uses[:1], []api.Step{c(0), d(0, 0)}
			}
		}
		if !sample.SameEntries([]api.Entry{x}, []api.Entry{want}) {
			t.Errorf("Moved along %s of %s = %v", move.along, move.name, x)
		}
	}
}

// 8.4: the error is that of the first one that fails.
func TestThere(t *testing.T) {
	tests := []struct {
		t, u, name, want string
		e                api.Errno
	}{
		{"minus", "plus", "n", "N N x0", api.OK}, {"minus", "plus", "nt", "N N T", api.OK}, {"k", "k", "k", "C x0 C x1 C x2 C x3 x2", api.OK}, {"same", "minus", "v", "M x0", api.OK}, {"any", "k", "n", "C x0 x1", api.OK},
		{"n", "k", "n", "", api.ErrState}, {"k", "n", "n", "", api.ErrState}, {"any", "v", "n", "", api.ErrState}, {"n", "twice", "great", "", api.ErrState}, {"n", "minus", "k", "", api.ErrState},
		{"plus", "minus", "n", "", api.ErrNone}, {"minus", "minus", "n", "", api.ErrNone}, {"minus", "n", "k", "", api.ErrNone}, {"plus", "twice", "great", "", api.ErrNone},
		{"twice", "same", "great", "", api.ErrLimit}, {"twice", "n", "great", "", api.ErrLimit}, {"minus", "twice", "great", "", api.ErrLimit}, {"twice", "twice", "less", "", api.ErrLimit}, {"same", "round", "any", "", api.ErrLimit},
	}
	for _, test := range tests {
		u, e := carry.There(logic(), roads(), test.t, test.u, test.name)
		checkSays(t, "There along "+test.t+" and "+test.u+" of "+test.name, u, e, test.want, test.e)
	}
}

// 8.4, P8.4: by random libraries. Moved's entry holds, and says all that its
// proof proves.
func TestAlongRandom(t *testing.T) {
	var d sample.Dice
	s := logic()
	done := map[api.Errno]int{}
	for range 2000 {
		l := library(&d, 12)
		x, y, z := l[d.Roll(len(l))], l[d.Roll(len(l))], l[d.Roll(len(l))]
		want, wrong := kernel.Detach(s, x.Says, y.Says)
		if u, e := carry.Along(s, l, x.Name, y.Name); e != wrong || !slices.Equal(u, want) {
			t.Errorf("Along(%v, %q, %q) = %v, %d", l, x.Name, y.Name, u, e)
		}
		moved, e := carry.Moved(s, l, x.Name, y.Name, "new", "cy")
		if e != wrong || !slices.Equal(moved.Says, want) {
			t.Errorf("Moved(%v, %q, %q) = %v, %d", l, x.Name, y.Name, moved, e)
		}
		done[e]++
		twice := wrong
		if e == api.OK {
			checkProves(t, l, moved)
			want, twice = kernel.Detach(s, z.Says, want)
		}
		if u, e := carry.There(s, l, x.Name, z.Name, y.Name); e != twice || !slices.Equal(u, want) {
			t.Errorf("There(%v, %q, %q, %q) = %v, %d", l, x.Name, z.Name, y.Name, u, e)
		}
	}
	if done[api.OK] < 300 || done[api.ErrState] < 100 || done[api.ErrNone] < 50 {
		t.Errorf("%v", done)
	}
}

// checkProves fails unless an entry can be added to a library, holds then, and
// says all that its proof proves.
func checkProves(t *testing.T, l []api.Entry, x api.Entry) {
	t.Helper()
	with, e := carry.Added(logic(), l, x)
	is, f := deps.Holds(logic(), with, x.Name)
	u, g := deps.Strongest(logic(), with, x.Name)
	if e != api.OK || !is || f != api.OK || g != api.OK || !slices.Equal(u, x.Says) {
		t.Errorf("%v added to %v: %d, holds: %t, %d; proves %v, %d", x, l, e, is, f, u, g)
	}
}

// making has the functions that make an entry, or a statement, of two entries.
func making(l []api.Entry, first, second, new, by string) map[string]api.Errno {
	errors := map[string]api.Errno{}
	_, errors["Moved"] = carry.Moved(logic(), l, first, second, new, by)
	_, errors["Chain"] = carry.Chain(logic(), l, first, second, new, by)
	return errors
}

// 8.4, 8.5: ErrName for all names that are not there, also where some entry uses
// them, behind ErrInvalid and ahead of all others.
func TestNoSuchName(t *testing.T) {
	s, l := logic(), roads()
	for _, name := range append(sample.WrongNames(), "gone", "ann", "new", "x0") {
		errors := []api.Errno{}
		note := func(_ api.Term, e api.Errno) { errors = append(errors, e) }
		note(carry.Along(s, l, name, "k"))
		note(carry.Along(s, l, "n", name))
		note(carry.There(s, l, name, "k", "k"))
		note(carry.There(s, l, "n", name, "k"))
		note(carry.There(s, l, "minus", "n", name))
		note(carry.There(s, nil, name, name, name))
		for _, pair := range [][2]string{{name, "k"}, {"n", name}, {"k", name}, {name, name}} {
			for _, new := range []string{"new", "k", "gone"} {
				for called, e := range making(l, pair[0], pair[1], new, "cy") {
					if e != api.ErrName {
						t.Errorf("%s of %q: %d", called, pair, e)
					}
				}
			}
		}
		for i, e := range errors {
			if e != api.ErrName {
				t.Errorf("%d with %q: %d", i, name, e)
			}
		}
	}
}

// 8.4, 8.5: ErrInvalid of a new name and of a person's, ahead of ErrName, and
// ErrDuplicate, behind ErrName and ahead of all others.
func TestNewNames(t *testing.T) {
	l := roads()
	for _, wrong := range sample.WrongNames() {
		for _, names := range [][4]string{{"k", "k", wrong, "cy"}, {"k", "same", "new", wrong}, {"gone", "k", wrong, "cy"}, {"k", "gone", "new", wrong}, {"n", "k", wrong, wrong}} {
			for called, e := range making(l, names[0], names[1], names[2], names[3]) {
				if e != api.ErrInvalid {
					t.Errorf("%s of %q: %d", called, names, e)
				}
			}
		}
	}
	for _, move := range moves() {
		for _, x := range l {
			for called, e := range making(l, move.along, move.name, x.Name, "cy") {
				if e != api.ErrDuplicate {
					t.Errorf("%s of %s and %s called %s: %d", called, move.along, move.name, x.Name, e)
				}
			}
		}
	}
	for _, name := range append(sample.RightNames(), "gone") {
		for _, by := range []string{name, "k"} {
			if x, e := carry.Moved(logic(), l, "k", "same", name, by); e != api.OK || x.Name != name || x.By != by {
				t.Errorf("Moved called %q by %q = %v, %d", name, by, x, e)
			}
		}
	}
}
