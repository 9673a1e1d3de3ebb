package carry_test

import (
	"slices"
	"strings"
	"testing"

	"lemmary/api"
	"lemmary/carry"
	"lemmary/deps"
	"lemmary/sample"
)

// The library into which is imported: k says more than j.
const into = "entry j by ann says <C N x0 C x1 N x0> uses\nentry k by ann says <C x0 C x1 x0> uses\nentry kk by bob says <C x0 C x1 C x2 x1> uses k\ncite 0\ndetach 0 0\n"

// checkImported fails unless a library is imported so under the prefix p, or not
// imported for a reason. What is wanted comes behind the library into.
func checkImported(t *testing.T, m, want string, wrong api.Errno) {
	t.Helper()
	if wrong == api.OK {
		want = into + want
	}
	got, e := carry.Imported(logic(), read(into), read(m), "p")
	checkLibrary(t, "Imported of "+m, got, e, want, wrong)
}

// checkMet fails unless just these axioms of a library are met.
func checkMet(t *testing.T, m string, want ...string) {
	t.Helper()
	if got, e := carry.Met(logic(), read(into), read(m)); e != api.OK || !slices.Equal(got, want) {
		t.Errorf("Met of %q = %v, %d", m, got, e)
	}
}

// 8.1: axioms that are met go, and the first entry that meets them is cited. That
// may be a theorem, too.
func TestImportedAxioms(t *testing.T) {
	a, b := "entry a by cy says <C x0 C x1 x0> uses\n", "entry b by cy says <C N M x0 C x1 N M x0> uses\n"
	c, d := "entry c by cy says <C x0 x0> uses\n", "entry d by cy says <C T C F C T F> uses\n"
	more := "entry more by cy says <C x0 C x1 x2> uses\n"
	tests := []struct{ m, want, met string }{
		{"", "", ""}, {a, "", "a"}, {b, "", "b"}, {c, "entry p_c by cy says <C x0 x0> uses\n", ""}, {d, "", "d"}, {more, "entry p_more by cy says <C x0 C x1 x2> uses\n", ""},
		{d + c + b + more + a, "entry p_c by cy says <C x0 x0> uses\nentry p_more by cy says <C x0 C x1 x2> uses\n", "a b d"},
		{"entry t by cy says <T> uses b c d a\ncite 3\n" + d + c + "entry b by cy says <C N T C T N T> uses\nentry a by cy says <C T C F T> uses\n", "entry p_t by cy says <T> uses j p_c kk k\ncite 3\nentry p_c by cy says <C x0 x0> uses\n", "a b d"},
	}
	for _, test := range tests {
		checkImported(t, test.m, test.want, api.OK)
		checkMet(t, test.m, strings.Fields(test.met)...)
	}
}

// 8.1: entries that are no axioms are always added, whatever they say, and so are
// names that m has not.
func TestImportedOthers(t *testing.T) {
	t1 := "entry k by cy says <C x0 C x1 x0> uses gone\ncite 0\n"
	checkImported(t, t1, "entry p_k by cy says <C x0 C x1 x0> uses p_gone\ncite 0\n", api.OK)
	checkMet(t, t1)
	t2 := "entry a by k says <C x0 C x1 x0> uses b gone\ncite 1\ncite 0\ndetach 0 1\nentry b by cy says <C x0 C x1 x0> uses\nentry c by cy says <N x0> uses k b c a\ncite 3\n"
	checkImported(t, t2, "entry p_a by k says <C x0 C x1 x0> uses k p_gone\ncite 1\ncite 0\ndetach 0 1\nentry p_c by cy says <N x0> uses p_k k p_c p_a\ncite 3\n", api.OK)
	checkMet(t, t2, "b")
	for _, name := range []string{"a", "b", "k", "kk", "j"} { // names of l and m are not held against each other
		checkImported(t, "entry "+name+" by cy says <N x0> uses\n", "entry p_"+name+" by cy says <N x0> uses\n", api.OK)
	}
	// What m lacks may be there under the prefix.
	checkText := func(l, m, want string, wrong api.Errno) {
		got, e := carry.Imported(logic(), read(l), read(m), "p")
		checkLibrary(t, "Imported", got, e, want, wrong)
	}
	x := "entry p_x by ann says <T> uses\n"
	checkText(x, "entry t by cy says <T> uses x\ncite 0\n", x+"entry p_t by cy says <T> uses p_x\ncite 0\n", api.OK)
	checkText(x, "entry x by cy says <T> uses\nentry t by cy says <T> uses x\ncite 0\n", x+"entry p_t by cy says <T> uses p_x\ncite 0\n", api.OK)
	checkText(x, "entry y by cy says <T> uses\nentry t by cy says <T> uses x y\ncite 0\n", "", api.ErrSize)
	checkText("entry self by ann says <x0> uses self\ncite 0\n", "entry y by cy says <F> uses\n", "entry self by ann says <x0> uses self\ncite 0\n", api.OK)
}

// 8.1: names that stay prefixed have 16 bytes at most, and those of axioms that
// are met are not asked.
func TestImportedNames(t *testing.T) {
	long, longest := strings.Repeat("z", 14), strings.Repeat("z", 15)
	claim := func(name, says string) string { return "entry " + name + " by cy says <" + says + "> uses\n" }
	checkImported(t, claim(long, "T"), claim("p_"+long, "T"), api.OK)
	checkImported(t, claim(longest, "T"), "", api.ErrLimit)
	checkImported(t, claim(longest, "C T C F T"), "", api.OK)
	checkImported(t, claim(longest, "C T C F T")+"entry t by cy says <T> uses "+longest+"\ncite 0\n", "entry p_t by cy says <T> uses k\ncite 0\n", api.OK)
	checkImported(t, "entry t by cy says <T> uses "+longest+"\ncite 0\n", "", api.ErrLimit)
	checkImported(t, "entry t by cy says <T> uses x "+longest+" y\ncite 0\n", "", api.ErrLimit)
	checkImported(t, "entry t by cy says <T> uses "+long+"\ncite 0\n", "entry p_t by cy says <T> uses p_"+long+"\ncite 0\n", api.OK)
	checkImported(t, "entry "+longest+" by cy says <C T C F T> uses x\ncite 0\n", "", api.ErrLimit)
	for _, prefix := range []string{longest, longest + "z"} {
		got, e := carry.Imported(logic(), read(into), read(claim("a", "C T C F T")), prefix)
		checkLibrary(t, "Imported", got, e, into, api.OK)
		got, e = carry.Imported(logic(), read(into), read(claim("a", "T")), prefix)
		checkLibrary(t, "Imported", got, e, "", api.ErrLimit)
	}
}

// 8.1: both together have 60 entries at most, without those that go.
func TestImportedLimit(t *testing.T) {
	f := api.Entry{Name: "f", By: "ann", Says: api.Term{8}}
	for count := 57; count <= 60; count++ {
		l := axioms(count)
		for others := range 5 {
			m := axioms(60 - others)
			for _, x := range axioms(60)[60-others:] {
				m = append(m, api.Entry{Name: x.Name, By: "ann", Says: f.Says})
			}
			got, e := carry.Imported(logic(), l, m, "p")
			fits := count+others <= 60
			if fits && (e != api.OK || len(got) != count+others) || !fits && (e != api.ErrLimit || len(got) != 0) {
				t.Errorf("%d and %d entries: %d, %d", count, others, len(got), e)
			}
		}
	}
}

// 8.1: ErrLimit, ErrDuplicate, ErrSize, in this order.
func TestImportedErrors(t *testing.T) {
	l := read(into + "entry p_x by ann says <F> uses\n")
	x, twice := "entry x by cy says <T> uses\n", "entry a by cy says <C T C F T> uses\nentry b by cy says <C F C T F> uses\nentry t by cy says <T> uses a b\ncite 0\n"
	long := "entry t1 by cy says <T> uses " + strings.Repeat("z", 15) + "\ncite 0\n"
	tests := []struct {
		m string
		e api.Errno
	}{
		{"entry y by cy says <T> uses\n", api.OK}, {x, api.ErrDuplicate}, {twice, api.ErrSize}, {long, api.ErrLimit},
		{x + twice, api.ErrDuplicate}, {twice + x, api.ErrDuplicate}, {x + twice + long, api.ErrLimit}, {long + twice, api.ErrLimit}, {long + x, api.ErrLimit},
		{"entry x by cy says <T> uses y\ncite 0\n", api.ErrDuplicate}, {"entry x by cy says <C T C F T> uses\n", api.OK}, {"entry y by cy says <C T C F T> uses x\ncite 0\n", api.OK},
		{"entry a by cy says <C T C F T> uses\nentry t by cy says <T> uses a b\ncite 0\n", api.OK},
	}
	for _, test := range tests {
		if got, e := carry.Imported(logic(), l, read(test.m), "p"); e != test.e || e != api.OK && len(got) != 0 {
			t.Errorf("Imported of %q = %v, %d", test.m, got, e)
		}
		m := read(test.m)
		m = append(m, api.Entry{Name: "same", By: "ann", Says: api.Term{2}}, api.Entry{Name: "same", By: "ann", Says: api.Term{2}})
		if got, e := carry.Imported(logic(), l, m, "p"); e != api.ErrInvalid || len(got) != 0 {
			t.Errorf("Imported of %v = %v, %d", m, got, e)
		}
	}
	many := axioms(58)
	for i := range many {
		many[i].Says = api.Term{3, -1, -2, -3}
	}
	if got, e := carry.Imported(logic(), l, append(many, read(twice)[2], read(x)[0]), "p"); e != api.ErrLimit || len(got) != 0 {
		t.Errorf("Imported = %v, %d", got, e)
	}
}

// imported imports a library by the chapter's words.
func imported(l, m []api.Entry, prefix string) ([]api.Entry, []string, api.Errno) {
	met := map[string]string{}
	for _, x := range m {
		for _, y := range l {
			if isAxiom(x) && met[x.Name] == "" && sample.Instance(logic(), y.Says, x.Says) {
				met[x.Name] = y.Name
			}
		}
	}
	whole, e := slices.Clone(l), api.OK
	worse := func(f api.Errno) {
		order := []api.Errno{api.ErrLimit, api.ErrDuplicate, api.ErrSize, api.OK}
		if slices.Index(order, f) < slices.Index(order, e) {
			e = f
		}
	}
	for _, x := range m {
		if met[x.Name] != "" {
			continue
		}
		x.Name = prefix + "_" + x.Name
		x.Uses = slices.Clone(x.Uses)
		for k, name := range x.Uses {
			x.Uses[k] = met[name]
			if met[name] == "" {
				x.Uses[k] = prefix + "_" + name
			}
			if len(x.Uses[k]) > 16 {
				worse(api.ErrLimit)
			}
			if slices.Contains(x.Uses[:k], x.Uses[k]) {
				worse(api.ErrSize)
			}
		}
		if len(x.Name) > 16 {
			worse(api.ErrLimit)
		}
		if slices.ContainsFunc(l, func(y api.Entry) bool { return y.Name == x.Name }) {
			worse(api.ErrDuplicate)
		}
		whole = append(whole, x)
	}
	if len(whole) > 60 {
		worse(api.ErrLimit)
	}
	if e != api.OK {
		whole = nil
	}
	return whole, names(m, func(x api.Entry) bool { return met[x.Name] != "" }), e
}

// meeting returns a library with, now and then, an axiom that meets many.
func meeting(d *sample.Dice, l []api.Entry) []api.Entry {
	if d.Roll(2) == 0 {
		return l
	}
	return append(l, api.Entry{Name: "any", By: "ann", Says: api.Term{0, -1, -2}})
}

// 8.1: by random libraries, against the chapter's words.
func TestImportedRandom(t *testing.T) {
	var d sample.Dice
	done := map[api.Errno]int{}
	metSome := 0
	for range 2000 {
		l, m := meeting(&d, library(&d, 12)), library(&d, 12)
		prefix := []string{"p", "pre_0", strings.Repeat("z", 12), strings.Repeat("z", 13)}[d.Roll(4)]
		if d.Roll(4) == 0 {
			l[d.Roll(len(l))].Name = prefix + "_" + m[d.Roll(len(m))].Name
		}
		if d.Roll(10) == 0 {
			m[d.Roll(len(m))].Name = strings.Repeat("z", 16)
		}
		if !deps.Valid(logic(), l) {
			continue
		}
		want, met, wrong := imported(l, m, prefix)
		got, e := carry.Imported(logic(), l, m, prefix)
		if e != wrong || !sample.SameEntries(got, want) || !deps.Valid(logic(), got) {
			t.Errorf("Imported(%v, %v, %q) = %v, %d; want %v, %d", l, m, prefix, got, e, want, wrong)
		}
		if got, e := carry.Met(logic(), l, m); e != api.OK || !slices.Equal(got, met) {
			t.Errorf("Met(%v, %v) = %v, %d; want %v", l, m, got, e, met)
		}
		done[e]++
		if len(met) > 1 {
			metSome++
		}
	}
	if len(done) != 4 || done[api.OK] < 300 || done[api.ErrLimit] < 100 || done[api.ErrDuplicate] < 50 || done[api.ErrSize] < 50 || metSome < 200 {
		t.Errorf("%v, %d with axioms that are met", done, metSome)
	}
}

// P8.3: of two sound libraries comes a sound one, where no step becomes ErrLimit
// or ErrState.
func TestImportedIsSound(t *testing.T) {
	var d sample.Dice
	s := logic()
	done := map[string]int{}
	for range 1500 {
		l, m := meeting(&d, sound(&d, 10)), sound(&d, 10)
		got, e := carry.Imported(s, l, m, "p")
		if e != api.OK {
			done["not imported"]++
			continue
		}
		is, f := deps.Sound(s, got)
		if f != api.OK || !is && !soundButForLimits(s, got) {
			t.Errorf("%v with %v imported is %v: %t, %d", l, m, got, is, f)
		}
		if !is {
			done["not sound"]++
		} else if len(got) < len(l)+len(m) {
			done["fewer"]++
		}
	}
	if done["not imported"] < 50 || done["not sound"] < 10 || done["fewer"] < 200 {
		t.Errorf("%v", done)
	}
}
