package term_test

import (
	"math"
	"math/rand/v2"
	"slices"

	"lemmary/api"
)

// sign has a symbol of each arity: C/2 N/1 T/0 f/3.
func sign() api.Sign {
	return api.Sign{{Name: "C", Arity: 2}, {Name: "N", Arity: 1}, {Name: "T", Arity: 0}, {Name: "f", Arity: 3}}
}

// tower is N N ... N T with so many numbers.
func tower(size int) api.Term {
	return append(slices.Repeat(api.Term{1}, size-1), 2)
}

// wrongSigns holds one sign for each way of not being valid.
func wrongSigns() []api.Sign {
	c := api.Symbol{Name: "C", Arity: 2}
	many := api.Sign{c}
	for i := range api.MaxSymbols {
		many = append(many, api.Symbol{Name: string(rune('a' + i))})
	}
	wrong := []api.Sign{nil, {}, many}
	for _, arity := range []int{-1, 0, 1, 3, math.MinInt, math.MaxInt} {
		wrong = append(wrong, api.Sign{{Name: "C", Arity: arity}})
	}
	for _, arity := range []int{-1, 4, math.MinInt, math.MaxInt} {
		wrong = append(wrong, api.Sign{c, {Name: "N", Arity: arity}})
	}
	for _, name := range []string{"", "C", "abcdefghi", "a1", "1", "a b", "a/", "ä", "_", "@", "[", "`", "{", "a\x00", "a\n"} {
		wrong = append(wrong, api.Sign{c, {Name: name, Arity: 1}})
	}
	return append(wrong, api.Sign{{Name: "", Arity: 2}}, api.Sign{{Name: "C2", Arity: 2}}, api.Sign{c, {Name: "N"}, {Name: "a"}, {Name: "N", Arity: 1}})
}

// rightSigns holds signs at the limits, and ordinary ones.
func rightSigns() []api.Sign {
	full := api.Sign{{Name: "aZzAabcd", Arity: 2}}
	for i := range api.MaxSymbols - 1 {
		full = append(full, api.Symbol{Name: string(rune('A' + i)), Arity: i % 4})
	}
	return []api.Sign{{{Name: "C", Arity: 2}}, {{Name: "z", Arity: 2}, {Name: "Z", Arity: 3}}, {{Name: "c", Arity: 2}, {Name: "C", Arity: 2}, {Name: "cc"}}, full, sign()}
}

// wrongTerms holds terms that are not valid for the sign of sign.
func wrongTerms() []api.Term {
	return []api.Term{
		nil, {}, {0}, {0, -1}, {0, -1, -1, -1}, {-1, -1}, {2, 2}, {1}, {1, 2, 2}, {3, 2, 2}, {3, 2, 2, 2, 2},
		{4}, {1, 4}, {-13}, {1, -13}, {0, -1, math.MinInt}, {0, -1, math.MaxInt}, {math.MinInt}, {math.MaxInt},
		slices.Repeat(api.Term{1}, 60), slices.Repeat(api.Term{0}, 60), tower(61), append(tower(60), -1), slices.Repeat(api.Term{3}, 100000),
	}
}

// isTerm tells by counting whether a list is a term: another way than the
// package's own.
func isTerm(s api.Sign, t api.Term) bool {
	missing := 1
	for _, x := range t {
		if missing == 0 || x < -12 || x >= len(s) {
			return false
		}
		missing--
		if x >= 0 {
			missing += s[x].Arity
		}
	}
	return missing == 0 && len(t) <= 60
}

// lists calls visit with all lists of numbers from a choice, of up to most
// numbers.
func lists(choice []int, most int, visit func(api.Term)) {
	var grow func(t api.Term)
	grow = func(t api.Term) {
		visit(slices.Clone(t))
		if len(t) == most {
			return
		}
		for _, x := range choice {
			grow(append(t, x))
		}
	}
	grow(make(api.Term, 0, most))
}

// smallTerms returns all valid terms of up to most numbers with the variables
// 0, 1 and 11.
func smallTerms(s api.Sign, most int) []api.Term {
	var terms []api.Term
	choice := []int{-12, -2, -1}
	for i := range s {
		choice = append(choice, i)
	}
	lists(choice, most, func(t api.Term) {
		if isTerm(s, t) {
			terms = append(terms, t)
		}
	})
	return terms
}

// randomTerms returns terms of up to MaxSize numbers, always the same ones.
func randomTerms(s api.Sign, count int) []api.Term {
	r := rand.New(rand.NewPCG(1, 2))
	terms := make([]api.Term, count)
	for i := range terms {
		terms[i] = grown(r, s, 1+r.IntN(api.MaxSize))
	}
	return terms
}

func grown(r *rand.Rand, s api.Sign, most int) api.Term {
	x := r.IntN(len(s))
	if s[x].Arity >= most || r.IntN(20) == 0 {
		return api.Term{-1 - r.IntN(api.MaxVars)}
	}
	t := api.Term{x}
	for k := range s[x].Arity {
		room := most - len(t) - (s[x].Arity - k - 1)
		t = append(t, grown(r, s, 1+r.IntN(room))...)
	}
	return t
}

// terms returns all small terms and some great ones.
func terms() []api.Term {
	return append(smallTerms(sign(), 4), randomTerms(sign(), 200)...)
}

// paths returns the paths of all parts of a term, told by the document's words.
func paths(s api.Sign, t api.Term) [][]int {
	all := [][]int{{}}
	if t[0] < 0 {
		return all
	}
	from := 1
	for k := range s[t[0]].Arity {
		to := from + 1
		for !isTerm(s, t[from:to]) {
			to++
		}
		for _, path := range paths(s, t[from:to]) {
			all = append(all, append([]int{k}, path...))
		}
		from = to
	}
	return all
}

// partAt returns the part at a path that there is.
func partAt(s api.Sign, t api.Term, path []int) api.Term {
	for _, k := range path {
		from := 1
		for range k {
			from += length(s, t[from:])
		}
		t = t[from : from+length(s, t[from:])]
	}
	return t
}

// length returns how many numbers the term has with which a list begins.
func length(s api.Sign, t api.Term) int {
	for n := 1; ; n++ {
		if isTerm(s, t[:n]) {
			return n
		}
	}
}
