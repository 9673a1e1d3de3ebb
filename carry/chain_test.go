package carry_test

import (
	"slices"
	"strings"
	"testing"

	"lemmary/api"
	"lemmary/carry"
	"lemmary/deps"
	"lemmary/sample"
)

const (
	entryS = "entry s by ann says <C C x0 C x1 x2 C C x0 x1 C x0 x2> uses\n"
	entryK = "entry k by ann says <C x0 C x1 x0> uses\n"
)

// checkChain fails unless the entry chain, which is made of two entries, is so,
// with the proof that a text is, or there is an error.
func checkChain(t *testing.T, l []api.Entry, first, second, want string, wrong api.Errno) {
	t.Helper()
	x, e := carry.Chain(logic(), l, first, second, "chain", "cy")
	text := deps.Format(logic(), []api.Entry{x})
	if wrong == api.OK {
		want = "entry chain by cy says " + want + "\n"
	}
	if e != wrong || text != want || e != api.OK && !sample.SameEntries([]api.Entry{x}, []api.Entry{{}}) {
		t.Errorf("Chain(%s, %s) = %q, %d; want %q, %d", first, second, text, e, want, wrong)
	}
	if e == api.OK {
		checkProves(t, l, x)
	}
}

// proof is a proof of seven steps with these citations.
func proof(s, k, second, first string) string {
	return strings.Join([]string{"", "cite " + s, "cite " + k, "cite " + second, "detach 1 2", "detach 0 3", "cite " + first, "detach 4 5"}, "\n")
}

// 8.5: the entry uses the two, and then the first S and the first K, each once.
func TestChain(t *testing.T) {
	l := read("entry a by ann says <C x0 C x1 A x0 x1> uses\nentry b by ann says <C C x0 A x1 x0 K x1 x0> uses gone\ncite 0\nentry c by bob says <C M x0 M M x0> uses\n" +
		"entry k2 by ann says <C x0 C x1 x0> uses gone\ncite 0\n" + entryS + entryK + strings.Replace(entryS, "entry s", "entry s2", 1))
	tests := []struct{ first, second, want string }{
		{"a", "b", "<C x0 K x0 x1> uses a b s k2" + proof("2", "3", "1", "0")},
		{"c", "c", "<C M x0 M M M x0> uses c s k2" + proof("1", "2", "0", "0")},
		{"a", "a", "<C x0 C x1 A C x2 A x0 x2 x1> uses a s k2" + proof("1", "2", "0", "0")},
		{"k2", "b", "<C A x0 x1 K x0 x1> uses k2 b s" + proof("2", "0", "1", "0")},
		{"k", "b", "<C A x0 x1 K x0 x1> uses k b s k2" + proof("2", "3", "1", "0")},
		{"a", "k2", "<C x0 C x1 C x2 A x0 x2> uses a k2 s" + proof("2", "1", "1", "0")},
		{"s", "k2", "<C C x0 C x1 x2 C x3 C C x0 x1 C x0 x2> uses s k2" + proof("0", "1", "1", "0")},
		{"k2", "s", "<C C x0 x1 C C x2 x0 C x2 x1> uses k2 s" + proof("1", "0", "1", "0")},
		{"s", "s", "<C C x0 C x1 x2 C C C x0 x1 x0 C C x0 x1 x2> uses s k2" + proof("0", "1", "0", "0")},
		{"s2", "k2", "<C C x0 C x1 x2 C x3 C C x0 x1 C x0 x2> uses s2 k2 s" + proof("2", "1", "1", "0")},
		{"k", "k2", "<C x0 C x1 C x2 x0> uses k k2 s" + proof("2", "1", "1", "0")},
		{"k", "k", "<C x0 C x1 C x2 x0> uses k s k2" + proof("1", "2", "0", "0")},
	}
	for _, test := range tests {
		checkChain(t, l, test.first, test.second, test.want, api.OK)
	}
}

// 8.5: ErrState of either statement, then ErrNone where both do not go together,
// or S or K is not there, then ErrLimit.
func TestChainErrors(t *testing.T) {
	links := "entry v by ann says <x0> uses\nentry n by ann says <N T> uses\nentry and by ann says <K x0 x1> uses\n" +
		"entry up by ann says <C T N T> uses\nentry down by ann says <C N T T> uses\nentry wide by ann says <C T C x0 C x1 C x2 C x3 C x4 C x5 C x6 C x7 C x8 C x9 C x10 x11> uses\nentry late by ann says <C x0 C x0 F> uses\n" +
		"entry nearly by ann says <C C x0 C x1 x2 C C x0 x1 C x1 x2> uses\nentry other by ann says <C x0 C x1 x1> uses\n"
	tests := []struct {
		first, second, want string
		e                   api.Errno
	}{
		{"up", "down", "<C T T> uses up down s k" + proof("2", "3", "1", "0"), api.OK},
		{"v", "up", "", api.ErrState}, {"up", "v", "", api.ErrState}, {"n", "n", "", api.ErrState}, {"and", "up", "", api.ErrState}, {"up", "and", "", api.ErrState}, {"n", "wide", "", api.ErrState}, {"down", "n", "", api.ErrState},
		{"up", "up", "", api.ErrNone}, {"down", "down", "", api.ErrNone}, {"up", "wide", "", api.ErrNone}, {"late", "up", "", api.ErrNone}, {"late", "late", "<C x0 C C x0 F F> uses late s k" + proof("1", "2", "0", "0"), api.OK},
		{"down", "wide", "", api.ErrLimit},
	}
	for _, test := range tests {
		checkChain(t, read(links+entryK+entryS), test.first, test.second, test.want, test.e)
		for _, text := range []string{links, links + entryS, links + entryK} {
			wrong := api.ErrNone
			if test.e == api.ErrState {
				wrong = test.e
			}
			checkChain(t, read(text), test.first, test.second, "", wrong)
		}
	}
	if x, e := carry.Chain(sample.Sign(), sample.Library(), "k", "i", "k", "cy"); e != api.ErrDuplicate || !sample.SameEntries([]api.Entry{x}, []api.Entry{{}}) {
		t.Errorf("Chain = %v, %d", x, e)
	}
	if x, e := carry.Chain(sample.Sign(), sample.Library(), "k", "i", "ki", "cy"); e != api.OK || !slices.Equal(x.Says, sample.K()) {
		t.Errorf("Chain = %v, %d", x, e)
	}
}

// chained returns what of two statements is chained: by substitution, with the
// variables of the second one called otherwise.
func chained(s api.Sign, t, u api.Term) (api.Term, bool) {
	u = sample.Apart(u, api.MaxVars)
	p, q := halves(s, t)
	other, r := halves(s, u)
	l, unify := sample.Unifier(s, q, other)
	if !unify {
		return nil, false
	}
	return sample.Form(sample.Put(l, slices.Concat(api.Term{0}, p, r))), true
}

// halves returns what a statement "if A then B" has as A and as B.
func halves(s api.Sign, t api.Term) (a, b api.Term) {
	end, missing := 1, 1
	for ; missing > 0; end++ {
		missing--
		if t[end] >= 0 {
			missing += s[t[end]].Arity
		}
	}
	return t[1:end], t[end:]
}

// variables returns how many variables a canonical term has.
func variables(t api.Term) int {
	return -min(0, slices.Min(t))
}

// grown returns a term of up to most numbers, often of nearly as many.
func grown(d *sample.Dice, most, vars int) api.Term {
	t := api.Term{-1}
	for i := range d.Roll(31) {
		part := api.Term{-1 - i%vars}
		if d.Roll(8) == 0 {
			part = d.Term(logic(), 1+d.Roll(6), vars)
		}
		longer := slices.Concat(api.Term{0}, part, t)
		if len(longer) <= most {
			t = longer
		}
	}
	return t
}

// 8.5, P8.5: by pairs of random statements. What K and S bring in needs room for
// four numbers and one variable more than the second statement has.
func TestChainRandom(t *testing.T) {
	var d sample.Dice
	s := logic()
	done := map[string]int{}
	for range 4000 {
		vars := 1 + d.Roll(12)
		from, to := d.Term(s, 1+d.Roll(6), vars), d.Term(s, 1+d.Roll(6), vars)
		said := [2]api.Term{slices.Concat(api.Term{0}, grown(&d, 59-len(to), vars), to), slices.Concat(api.Term{0}, from, grown(&d, 59-len(from), vars))}
		said[0], said[1] = sample.Form(said[0]), sample.Form(said[1])
		l := []api.Entry{{Name: "u", By: "ann", Says: said[1]}, {Name: "k", By: "ann", Says: sample.K()}, {Name: "t", By: "ann", Says: said[0]}, {Name: "s", By: "ann", Says: sample.S()}}
		x, e := carry.Chain(s, l, "t", "u", "chain", "cy")
		want, unify := chained(s, said[0], said[1])
		wrong := ""
		if !unify {
			wrong = "apart"
		} else if len(said[1]) > 56 {
			wrong = "long"
		} else if variables(said[1]) == api.MaxVars {
			wrong = "wide"
		} else if len(want) > api.MaxSize || variables(want) > api.MaxVars {
			wrong = "great"
		}
		done[wrong]++
		switch wrong {
		case "":
			if e != api.OK || !slices.Equal(x.Says, want) {
				t.Errorf("%v and %v chained: %v, %d; want %v", said[0], said[1], x, e, want)
			}
			checkProves(t, l, x)
		case "apart":
			if e != api.ErrNone {
				t.Errorf("%v and %v chained: %v, %d", said[0], said[1], x, e)
			}
		default:
			if e != api.ErrLimit {
				t.Errorf("%v and %v chained: %v, %d; it is too %s", said[0], said[1], x, e, wrong)
			}
		}
	}
	if len(done) != 5 || done[""] < 500 || done["apart"] < 500 || done["long"] < 50 || done["wide"] < 20 || done["great"] < 100 {
		t.Errorf("%v", done)
	}
}

// 8.5: second statements of 55 to 58 numbers, of 11 and 12 variables, and
// statements that have 60 numbers or 12 variables, or more, when they are
// chained.
func TestChainLimit(t *testing.T) {
	s := logic()
	check := func(first, second api.Term, fits bool) {
		t.Helper()
		l := append(sample.Library(), api.Entry{Name: "t", By: "ann", Says: sample.Form(first)}, api.Entry{Name: "u", By: "ann", Says: sample.Form(second)})
		want, unify := chained(s, l[3].Says, l[4].Says)
		x, e := carry.Chain(s, l, "t", "u", "chain", "cy")
		if !unify || fits && (e != api.OK || !slices.Equal(x.Says, want)) || !fits && (e != api.ErrLimit || len(x.Says) != 0) {
			t.Errorf("%v and %v chained: %v, %d; want %v: %t", first, second, x, e, want, fits)
		}
	}
	for size := 55; size <= 58; size++ {
		check(api.Term{0, 2, 8}, slices.Concat(api.Term{0, 8}, sample.Tower(size-2)), size <= 56)
		check(api.Term{0, 8, -1}, slices.Concat(api.Term{0}, sample.Tower(size-2), api.Term{8}), size <= 56)
	}
	for vars := 2; vars <= 12; vars++ {
		check(api.Term{0, 2, 8}, slices.Concat(api.Term{0, 8}, sample.Chain(sample.Vars(1, vars)...)), vars <= 11)
		check(api.Term{0, -1, -1}, sample.Chain(sample.Vars(0, vars-1)...), vars <= 11)
		check(slices.Concat(api.Term{0}, sample.Chain(sample.Vars(0, 9)...), api.Term{8}), slices.Concat(api.Term{0, 8}, sample.Chain(sample.Vars(1, vars)...)), vars <= 2)
	}
	for size := 1; size <= 56; size++ {
		check(slices.Concat(api.Term{0}, sample.Tower(30), api.Term{8}), slices.Concat(api.Term{0, 8}, sample.Tower(size)), size <= 29)
		check(slices.Concat(api.Term{0}, sample.Tower(size), api.Term{8}), api.Term{0, -1, 5, -1, 8}, size <= 56)
		check(slices.Concat(api.Term{0, 2}, sample.Tower(size)), api.Term{0, -1, 5, -1, -1}, 2*size+3 <= 60)
	}
}
