package find_test

import (
	"slices"

	"lemmary/api"
	"lemmary/sample"
	"lemmary/term"
)

// short is the sign C/2 N/1 T/0, which has few small terms.
func short() api.Sign {
	return sample.Sign()[:3]
}

// shelf is the chapter's.
func shelf() []api.Term {
	return []api.Term{{0, -1, -1}, {0, -2, -2}, {0, 1, -1, -2}}
}

// meets tells in another way whether terms meet: by substitution, with the
// variables of b 20 higher.
func meets(s api.Sign, a, b api.Term) bool {
	_, same := sample.Unifier(s, a, sample.Apart(b, 20))
	return same
}

// alike tells in another way whether terms are alike.
func alike(s api.Sign, a, b api.Term) bool {
	return sample.Instance(s, a, b) && sample.Instance(s, b, a)
}

// sameShape tells whether terms differ but in their variables.
func sameShape(a, b api.Term) bool {
	return slices.EqualFunc(a, b, func(x, y int) bool { return x == y || x < 0 && y < 0 })
}

// paths returns the paths of all parts of a term.
func paths(s api.Sign, t api.Term) [][]int {
	all := [][]int{}
	parts, _ := term.Parts(s, t)
	for _, part := range parts {
		places, _ := term.Paths(s, t, part)
		all = append(all, places...)
	}
	slices.SortFunc(all, slices.Compare)
	return all
}

// where returns the paths of all parts of t that are instances of q.
func where(s api.Sign, t, q api.Term) [][]int {
	return slices.DeleteFunc(paths(s, t), func(path []int) bool {
		part, _ := term.At(s, t, path)
		return !sample.Instance(s, q, part)
	})
}

// having tells whether some part of t is an instance of q.
func having(s api.Sign, t, q api.Term) bool {
	return len(where(s, t, q)) > 0
}

// picked returns the indexes of the statements for which a report is true.
func picked(l []api.Term, is func(t api.Term) bool) []int {
	indexes := []int{}
	for i, t := range l {
		if is(t) {
			indexes = append(indexes, i)
		}
	}
	return indexes
}

func sameLists(a, b [][]int) bool {
	return slices.EqualFunc(a, b, func(x, y []int) bool { return slices.Equal(x, y) })
}

func sameTerms(a, b []api.Term) bool {
	return slices.EqualFunc(a, b, func(x, y api.Term) bool { return slices.Equal(x, y) })
}

// renamed returns a term that is alike another one: its variables change places.
func renamed(d *sample.Dice, t api.Term) api.Term {
	to := make([]int, api.MaxVars)
	for i := range to {
		to[i] = -i - 1
	}
	sample.Shuffle(d, to)
	u := slices.Clone(t)
	for i, x := range t {
		if x < 0 {
			u[i] = to[-x-1]
		}
	}
	return u
}

// changed returns what small terms in place of some variables make of a term,
// or the term itself if that is too great.
func changed(d *sample.Dice, s api.Sign, t api.Term) api.Term {
	l := []api.Bind{}
	for v := range 3 {
		if d.Roll(2) == 0 {
			l = append(l, api.Bind{Var: v, To: d.Term(s, 1+d.Roll(3), 3)})
		}
	}
	u := sample.Put(l, t)
	if len(u) > api.MaxSize {
		return t
	}
	return u
}

// shelves calls visit with random shelves of up to so many statements, many of
// which are alike others, or instances or parts of them, and with questions.
func shelves(count, most int, visit func(s api.Sign, l []api.Term, q api.Term)) {
	var d sample.Dice
	for range count {
		s := sample.Sign()[:1+d.Roll(4)]
		l := []api.Term{d.Term(s, 1+d.Roll(12), 3)}
		for range d.Roll(most) {
			l = append(l, next(&d, s, l[d.Roll(len(l))]))
		}
		q := next(&d, s, l[d.Roll(len(l))])
		sample.Shuffle(&d, l)
		visit(s, l, q)
	}
}

// next returns a term that has something to do with another one, or nothing.
func next(d *sample.Dice, s api.Sign, t api.Term) api.Term {
	switch d.Roll(6) {
	case 0:
		return renamed(d, t)
	case 1, 2:
		return changed(d, s, t)
	case 3:
		parts, _ := term.Parts(s, t)
		return parts[d.Roll(len(parts))]
	}
	return d.Term(s, 1+d.Roll(9), 3)
}
