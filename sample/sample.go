// Package sample is for the tests of all layers: it makes signs, terms,
// dictionaries, proofs, libraries and numbers, has a second way to unify, and
// checks what holds for all functions. No layer uses it.
package sample

import (
	"math"
	"slices"

	"lemmary/api"
)

// Sign has a symbol of each arity: C/2 N/1 T/0 f/3.
func Sign() api.Sign {
	return api.Sign{{Name: "C", Arity: 2}, {Name: "N", Arity: 1}, {Name: "T", Arity: 0}, {Name: "f", Arity: 3}}
}

// RightSigns holds signs at the limits, and ordinary ones.
func RightSigns() []api.Sign {
	full := api.Sign{{Name: "aZzAabcd", Arity: 2}}
	for i := range api.MaxSymbols - 1 {
		full = append(full, api.Symbol{Name: string(rune('A' + i)), Arity: i % 4})
	}
	return []api.Sign{
		{{Name: "C", Arity: 2}},
		{{Name: "z", Arity: 2}, {Name: "Z", Arity: 3}},
		{{Name: "c", Arity: 2}, {Name: "C", Arity: 2}, {Name: "cc"}},
		full,
		Sign(),
	}
}

// WrongSigns holds one sign for each way of not being valid.
func WrongSigns() []api.Sign {
	c := api.Symbol{Name: "C", Arity: 2}
	many := api.Sign{c}
	for i := range api.MaxSymbols {
		many = append(many, api.Symbol{Name: string(rune('a' + i))})
	}
	wrong := []api.Sign{nil, {}, many}
	for _, arity := range []int{-1, 0, 1, 3, math.MinInt, math.MaxInt} {
		wrong = append(wrong, api.Sign{{Name: "C", Arity: arity}})
	}
	for _, arity := range []int{-1, 4, math.MinInt, math.MaxInt} {
		wrong = append(wrong, api.Sign{c, {Name: "N", Arity: arity}})
	}
	for _, name := range []string{"", "C", "abcdefghi", "a1", "1", "a b", "a/", "ä", "_", "@", "[", "`", "{", "a\x00", "a\n"} {
		wrong = append(wrong, api.Sign{c, {Name: name, Arity: 1}})
	}
	return append(wrong,
		api.Sign{{Name: "", Arity: 2}},
		api.Sign{{Name: "C2", Arity: 2}},
		api.Sign{c, {Name: "N"}, {Name: "a"}, {Name: "N", Arity: 1}},
		api.Sign{c, {Name: "N", Arity: 1}, {Name: "T"}, {Name: "N", Arity: 3}})
}

// WrongTerms holds terms that are not valid for the sign of Sign.
func WrongTerms() []api.Term {
	return []api.Term{
		nil, {}, {0}, {0, -1}, {0, -1, -1, -1}, {-1, -1}, {2, 2}, {1}, {1, 2, 2}, {3, 2, 2}, {3, 2, 2, 2, 2},
		{4}, {1, 4}, {-13}, {1, -13}, {0, -1, math.MinInt}, {0, -1, math.MaxInt}, {math.MinInt}, {math.MaxInt},
		slices.Repeat(api.Term{1}, 60), slices.Repeat(api.Term{0}, 60), Tower(61), append(Tower(60), -1), slices.Repeat(api.Term{3}, 100000),
	}
}

// Tower is N N ... N T with so many numbers.
func Tower(size int) api.Term {
	return append(slices.Repeat(api.Term{1}, size-1), 2)
}

// IsTerm tells by counting whether a list is a term: another way than that of
// package term.
func IsTerm(s api.Sign, t api.Term) bool {
	for _, x := range t {
		if x < -api.MaxVars || x >= len(s) {
			return false
		}
	}
	return isWhole(s, t) && len(t) <= api.MaxSize
}

// isWhole tells whether numbers are just one term, however great it and the
// numbers of its variables are.
func isWhole(s api.Sign, t api.Term) bool {
	missing := 1
	for _, x := range t {
		if missing == 0 {
			return false
		}
		missing--
		if x >= 0 {
			missing += s[x].Arity
		}
	}
	return missing == 0
}

// Lists calls visit with all lists of numbers from a choice, of up to most
// numbers.
func Lists(choice []int, most int, visit func(api.Term)) {
	var grow func(t api.Term)
	grow = func(t api.Term) {
		visit(slices.Clone(t))
		if len(t) == most {
			return
		}
		for _, x := range choice {
			grow(append(t, x))
		}
	}
	grow(make(api.Term, 0, most))
}

// SmallTerms returns all terms of up to most numbers with some variables.
func SmallTerms(s api.Sign, most int, vars ...int) []api.Term {
	terms := []api.Term{}
	choice := []int{}
	for _, v := range vars {
		choice = append(choice, -v-1)
	}
	for i := range s {
		choice = append(choice, i)
	}
	Lists(choice, most, func(t api.Term) {
		if IsTerm(s, t) {
			terms = append(terms, t)
		}
	})
	return terms
}

// RandomTerms returns terms of up to MaxSize numbers, always the same ones.
func RandomTerms(s api.Sign, count int) []api.Term {
	var d Dice
	terms := make([]api.Term, count)
	for i := range terms {
		most := 1 + d.Roll(api.MaxSize)
		terms[i] = d.Term(s, most, api.MaxVars)
	}
	return terms
}
