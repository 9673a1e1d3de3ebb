package sample

import (
	"slices"
	"strconv"
	"strings"

	"lemmary/api"
)

// Library has the axioms k and s, and i, which is proved from them.
func Library() []api.Entry {
	return []api.Entry{
		{Name: "k", By: "ann", Says: K()},
		{Name: "s", By: "ann", Says: S()},
		{Name: "i", By: "bob", Says: api.Term{0, -1, -1}, Uses: []string{"k", "s"}, Proof: Identity()},
	}
}

// RightNames holds names of entries and persons.
func RightNames() []string {
	return []string{"a", "z", "az", "a0", "a9", "a_", "a__", "k_s_0", "entry", "by", "says", "uses", "cite", "x0", strings.Repeat("z", api.MaxName)}
}

// WrongNames holds strings that are no names.
func WrongNames() []string {
	wrong := []string{"", "aä", "ä", "ａ", strings.Repeat("z", api.MaxName+1), strings.Repeat("a", 100000), "a\xff"}
	for _, c := range "AZ09_`{@[/:^- \n\x00" {
		wrong = append(wrong, string(c), string(c)+"a")
		if !strings.ContainsRune("09_", c) {
			wrong = append(wrong, "a"+string(c), "a"+string(c)+"a")
		}
	}
	return wrong
}

// WrongEntries holds entries that are not valid for the sign of Sign, as they
// would be if one field were another one.
func WrongEntries() []api.Entry {
	wrong := []api.Entry{{}}
	change := func(change func(x *api.Entry)) {
		x := Library()[2]
		change(&x)
		wrong = append(wrong, x)
	}
	for _, name := range WrongNames() {
		change(func(x *api.Entry) { x.Name = name })
		change(func(x *api.Entry) { x.By = name })
		change(func(x *api.Entry) { x.Uses[0] = name })
		change(func(x *api.Entry) { x.Uses[1] = name })
	}
	for _, t := range append(WrongTerms(), api.Term{-2}, api.Term{0, -2, -1}, api.Term{0, -1, -3}) {
		change(func(x *api.Entry) { x.Says = t })
	}
	for _, p := range WrongProofs() {
		change(func(x *api.Entry) { x.Proof = p })
	}
	for _, uses := range [][]string{nil, {"k"}, {"k", "k"}, {"k", "s", "k"}, Names(api.MaxUses + 1), slices.Repeat([]string{"k", "s"}, 10000)} {
		change(func(x *api.Entry) { x.Uses = uses })
	}
	return wrong
}

// WrongLibraries holds lists of entries that are not valid for the sign of Sign.
func WrongLibraries() [][]api.Entry {
	wrong := [][]api.Entry{}
	for _, x := range WrongEntries() {
		wrong = append(wrong, append(Library(), x))
	}
	for i := range Library() {
		l := Library()
		l[i].Name = l[(i+1)%3].Name
		wrong = append(wrong, l, append(Library(), Library()[i]))
	}
	many := Library()
	for _, name := range Names(api.MaxEntries - 2) {
		many = append(many, api.Entry{Name: name, By: "ann", Says: K()})
	}
	return append(wrong, many, slices.Repeat(many, 1000))
}

// Names returns so many names: n0, n1, and so on.
func Names(count int) []string {
	names := make([]string, count)
	for i := range names {
		names[i] = "n" + strconv.Itoa(i)
	}
	return names
}

// Says tells what a proof says.
type Says func(g []api.Term, p []api.Step) (api.Term, api.Errno)

// Sound returns a library of up to most entries, all of which hold, in which
// each cites only earlier ones, and which are called in no order. Axioms may say
// more than they do otherwise.
func (d *Dice) Sound(most int, says Says, more ...api.Term) []api.Entry {
	l := d.axioms(1+d.Roll(most), more)
	for i := range l {
		if i > 0 && d.Roll(4) > 0 {
			d.prove(l, i, l[:i], says)
		}
	}
	return l
}

// Library returns a library of up to most entries, some of which may cite names
// that are missing, lean on themselves, or not hold. Axioms may say more than
// they do otherwise.
func (d *Dice) Library(most int, says Says, more ...api.Term) []api.Entry {
	l := d.axioms(1+d.Roll(most), more)
	others := slices.Clone(l)
	for range d.Roll(3) {
		others = append(others, api.Entry{Name: "m" + strconv.Itoa(d.Roll(3)), Says: K()})
	}
	for i := range l {
		if d.Roll(4) > 0 {
			was := l[i].Says
			d.prove(l, i, others[:1+d.Roll(len(others))], says)
			if d.Roll(3) == 0 {
				l[i].Says = was
			}
		}
	}
	return l
}

// axioms returns axioms, with names in no order, that say few different things,
// some of them more than usual.
func (d *Dice) axioms(count int, more []api.Term) []api.Entry {
	names := Names(count)
	choice := append([]api.Term{K(), S(), {0, -1, -1}, {0, -1, -2}, {0, 0, -1, -2, 0, -1, -1}, {1, -1}, {-1}}, more...)
	l := make([]api.Entry, count)
	for i := range l {
		at := d.Roll(len(names))
		l[i] = api.Entry{Name: names[at], By: []string{"ann", "bob", "cy"}[d.Roll(3)], Says: slices.Clone(choice[d.Roll(len(choice))])}
		names = slices.Delete(names, at, at+1)
	}
	return l
}

// prove gives the entry with the index i a proof from some others, and lets it
// say what this says, or an instance of it.
func (d *Dice) prove(l []api.Entry, i int, others []api.Entry, says Says) {
	uses, g := []string{}, []api.Term{}
	for range 1 + d.Roll(5) {
		other := others[d.Roll(len(others))]
		if at := slices.IndexFunc(l, func(x api.Entry) bool { return x.Name == other.Name }); at >= 0 {
			other = l[at]
		}
		if !slices.Contains(uses, other.Name) {
			uses, g = append(uses, other.Name), append(g, other.Says)
		}
	}
	p := d.Proof(len(g), 1+d.Roll(5), func(p []api.Step) bool {
		_, e := says(g, p)
		return e == api.OK
	})
	t, _ := says(g, p)
	if special := Put([]api.Bind{{Var: d.Roll(3), To: api.Term{1, -4}}}, t); len(special) <= api.MaxSize && d.Roll(4) == 0 {
		t = Form(special)
	}
	l[i].Uses, l[i].Proof, l[i].Says = uses, p, t
}

// SameEntries reports whether two lists have entries that are equal in all fields.
func SameEntries(a, b []api.Entry) bool {
	return slices.EqualFunc(a, b, func(x, y api.Entry) bool {
		same := x.Name == y.Name && x.By == y.By && slices.Equal(x.Says, y.Says)
		return same && slices.Equal(x.Uses, y.Uses) && slices.Equal(x.Proof, y.Proof)
	})
}

// Form returns the canonical form of a term, told number by number.
func Form(t api.Term) api.Term {
	vars := []int{}
	form := slices.Clone(t)
	for i, x := range t {
		if x >= 0 {
			continue
		}
		if !slices.Contains(vars, x) {
			vars = append(vars, x)
		}
		form[i] = -slices.Index(vars, x) - 1
	}
	return form
}
