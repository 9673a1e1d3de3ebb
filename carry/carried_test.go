package carry_test

import (
	"slices"
	"strings"
	"testing"

	"lemmary/api"
	"lemmary/carry"
	"lemmary/deps"
	"lemmary/sample"
	"lemmary/tongue"
)

// 8.1: the chapter's example: all K have exchanged arguments, and the entry says
// the canonical form.
func TestCarriedExample(t *testing.T) {
	s := api.Sign{{Name: "C", Arity: 2}, {Name: "K", Arity: 2}}
	d, _ := tongue.Parse("0:01 1:10")
	l, _, _ := deps.Parse(s, "entry left by ann says <C K x0 x1 x0> uses\nentry right by ann says <C K x0 x1 x1> uses\n"+
		"entry both by bob says <C x0 C x1 K x0 x1> uses\nentry turn by cy says <C K x0 x1 K x1 x0> uses gone\ncite 0\ndetach 0 0\n"+
		"entry deep by bob says <K K x0 x1 K x2 x0> uses left right\ncite 1\n")
	want := "entry left by ann says <C K x0 x1 x1> uses\nentry right by ann says <C K x0 x1 x0> uses\n" +
		"entry both by bob says <C x0 C x1 K x1 x0> uses\nentry turn by cy says <C K x0 x1 K x1 x0> uses gone\ncite 0\ndetach 0 0\n" +
		"entry deep by bob says <K K x0 x1 K x2 x0> uses left right\ncite 1\n"
	got, e := carry.Carried(s, s, d, l)
	if text := deps.Format(s, got); e != api.OK || text != want {
		t.Errorf("Carried = %q, %d", text, e)
	}
}

// journeys calls visit with random libraries of logic, and dictionaries to other
// signs, some of which are one to one.
func journeys(count, most int, visit func(b api.Sign, d []api.Way, l []api.Entry)) {
	var dice sample.Dice
	a := logic()
	visit(a, dice.OneToOne(a), nil)
	for range count {
		b, d := another(&dice, a)
		visit(b, d, library(&dice, most))
		visit(a, dice.OneToOne(a), library(&dice, most))
		visit(a, dice.Ways(a, a), library(&dice, most))
		visit(sample.Twins(), dice.Ways(a, sample.Twins()), library(&dice, most))
		visit(sample.Sign(), dice.Ways(a, sample.Sign()), sound(&dice, most))
	}
}

// 8.1: each entry says the canonical form of what it said, carried, and stays as
// it is otherwise.
func TestCarried(t *testing.T) {
	a, changed := logic(), 0
	journeys(200, 12, func(b api.Sign, d []api.Way, l []api.Entry) {
		want := slices.Clone(l)
		for i, x := range l {
			u := carriedTerm(a, d, x.Says)
			want[i].Says = sample.Form(u)
			if !slices.Equal(u, want[i].Says) {
				changed++
			}
		}
		if got, e := carry.Carried(a, b, d, l); e != api.OK || !sample.SameEntries(got, want) || !deps.Valid(b, got) {
			t.Errorf("Carried(%v, %v) = %v, %d", d, l, got, e)
		}
	})
	if changed < 100 {
		t.Errorf("only %d carried terms are not canonical", changed)
	}
}

// P8.2: by a one-to-one dictionary a library is sound, or not, as it was, entry
// by entry, and by the inverse dictionary it comes back.
func TestCarriedIsSound(t *testing.T) {
	a := logic()
	done := map[bool]int{}
	journeys(200, 12, func(b api.Sign, d []api.Way, l []api.Entry) {
		if !tongue.OneToOne(a, b, d) {
			return
		}
		got, e := carry.Carried(a, b, d, l)
		was, _ := deps.Sound(a, l)
		is, f := deps.Sound(b, got)
		if e != api.OK || f != api.OK || is != was {
			t.Errorf("%v is sound: %t; carried by %v: %t, %d, %d", l, was, d, is, e, f)
		}
		failed, _ := deps.Failing(a, l)
		if failing, _ := deps.Failing(b, got); !slices.Equal(failing, failed) {
			t.Errorf("of %v fails %v; carried by %v: %v", l, failed, d, failing)
		}
		inverse, _ := tongue.Inverse(a, b, d)
		if back, e := carry.Carried(b, a, inverse, got); e != api.OK || !sample.SameEntries(back, l) {
			t.Errorf("%v, carried by %v and back, is %v, %d", l, d, back, e)
		}
		done[is]++
	})
	if done[true] < 50 || done[false] < 50 {
		t.Errorf("%v", done)
	}
}

// 8.1: names that are there, and names that are not.
func TestPrefixed(t *testing.T) {
	l := read("entry k by ann says <C x0 C x1 x0> uses\nentry b_1 by k says <C x0 x0> uses gone k b_1\ncite 1\ncite 0\n")
	got, e := carry.Prefixed(logic(), l, "p")
	checkLibrary(t, "Prefixed", got, e, "entry p_k by ann says <C x0 C x1 x0> uses\nentry p_b_1 by k says <C x0 x0> uses p_gone p_k p_b_1\ncite 1\ncite 0\n", api.OK)
	got, e = carry.Prefixed(logic(), got, "q_0_")
	checkLibrary(t, "Prefixed", got, e, "entry q_0__p_k by ann says <C x0 C x1 x0> uses\nentry q_0__p_b_1 by k says <C x0 x0> uses q_0__p_gone q_0__p_k q_0__p_b_1\ncite 1\ncite 0\n", api.OK)
	for _, prefix := range sample.RightNames() {
		if got, e := carry.Prefixed(logic(), nil, prefix); e != api.OK || len(got) != 0 {
			t.Errorf("Prefixed by %q = %v, %d", prefix, got, e)
		}
	}
}

// 8.1: with the prefix, the underscore and the old one a name has 16 bytes at
// most, also one that is only used.
func TestPrefixedLimit(t *testing.T) {
	for size := 1; size <= api.MaxName; size++ {
		for long := 1; long <= api.MaxName; long++ {
			wrong := api.OK
			if size+1+long > api.MaxName {
				wrong = api.ErrLimit
			}
			prefix, name := strings.Repeat("p", size), strings.Repeat("z", long)
			for _, text := range []string{"entry NAME by ann says <T> uses\n", "entry NAME by ann says <T> uses NAME\ncite 0\n"} {
				want := ""
				if wrong == api.OK {
					want = strings.ReplaceAll(text, "NAME", prefix+"_"+name)
				}
				got, e := carry.Prefixed(logic(), read(strings.ReplaceAll(text, "NAME", name)), prefix)
				checkLibrary(t, "Prefixed", got, e, want, wrong)
			}
			got, e := carry.Prefixed(logic(), read("entry a by ann says <T> uses b "+name+" c\ncite 0\n"), prefix)
			if size+2 > api.MaxName {
				wrong = api.ErrLimit
			}
			if e != wrong || (e == api.OK) != (len(got) == 1) {
				t.Errorf("Prefixed by %q of what uses %q = %v, %d", prefix, name, got, e)
			}
		}
	}
}

// P8.3: a prefixed library is sound just if the library is.
func TestPrefixedIsSound(t *testing.T) {
	var d sample.Dice
	s := logic()
	done := map[bool]int{}
	for range 500 {
		l := library(&d, 12)
		got, e := carry.Prefixed(s, l, "pre")
		was, _ := deps.Sound(s, l)
		if is, f := deps.Sound(s, got); e != api.OK || f != api.OK || is != was {
			t.Errorf("%v is sound: %t; prefixed: %t, %d, %d", l, was, is, e, f)
		}
		done[was]++
	}
	if done[true] < 50 || done[false] < 50 {
		t.Errorf("%v", done)
	}
}

// 8.5
func TestAdded(t *testing.T) {
	s, l := sample.Sign(), sample.Library()
	x := api.Entry{Name: "self", By: "k", Says: api.Term{2}, Uses: []string{"gone", "self"}, Proof: sample.Doubling(3)}
	got, e := carry.Added(s, l, x)
	if e != api.OK || !sample.SameEntries(got, append(sample.Library(), x)) {
		t.Errorf("Added = %v, %d", got, e)
	}
	if got, e := carry.Added(s, nil, x); e != api.OK || !sample.SameEntries(got, []api.Entry{x}) {
		t.Errorf("Added to nothing = %v, %d", got, e)
	}
	for i := range l {
		x.Name = l[i].Name
		if got, e := carry.Added(s, l, x); e != api.ErrDuplicate || len(got) != 0 {
			t.Errorf("Added %q = %v, %d", x.Name, got, e)
		}
	}
}

// axioms returns a library with so many axioms n0, n1, and so on, that say T.
func axioms(count int) []api.Entry {
	l := []api.Entry{}
	for _, name := range sample.Names(count) {
		l = append(l, api.Entry{Name: name, By: "ann", Says: api.Term{2}})
	}
	return l
}

// 8.5: ErrLimit from the 61st entry on, behind ErrDuplicate and ErrInvalid.
func TestAddedLimit(t *testing.T) {
	tests := []struct {
		count int
		name  string
		e     api.Errno
	}{
		{59, "x", api.OK}, {60, "x", api.ErrLimit}, {59, "n58", api.ErrDuplicate}, {60, "n0", api.ErrDuplicate}, {60, "N0", api.ErrInvalid}, {61, "x", api.ErrInvalid},
	}
	for _, test := range tests {
		got, e := carry.Added(sample.Sign(), axioms(test.count), api.Entry{Name: test.name, By: "ann", Says: api.Term{2}})
		if e != test.e || (e == api.OK) != (len(got) == test.count+1) || e != api.OK && len(got) != 0 {
			t.Errorf("%q added to %d: %d entries, %d", test.name, test.count, len(got), e)
		}
	}
}
