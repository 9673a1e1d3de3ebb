package tongue_test

import (
	"slices"
	"strings"

	"lemmary/api"
	"lemmary/sample"
)

// reader reads a text strictly, from left to right: another way than that of
// the package.
type reader struct {
	s      api.Sign
	tongue int
	rest   string
	wrong  bool
}

// parsed returns the term that a text is in a tongue.
func parsed(s api.Sign, tongue int, text string) (api.Term, bool) {
	r := reader{s: s, tongue: tongue, rest: text}
	t := r.term()
	if r.wrong || r.rest != "" || len(t) > api.MaxSize {
		return nil, false
	}
	return t, true
}

func (r *reader) skip(word string) {
	rest, found := strings.CutPrefix(r.rest, word)
	r.rest = rest
	r.wrong = r.wrong || !found
}

// word takes the letters and digits with which the rest begins.
func (r *reader) word() string {
	n := 0
	for n < len(r.rest) && strings.ContainsRune("abcdefghijklmnopqrstuvwxyzABCDEFGHIJKLMNOPQRSTUVWXYZ0123456789", rune(r.rest[n])) {
		n++
	}
	word := r.rest[:n]
	r.rest = r.rest[n:]
	return word
}

func (r *reader) term() api.Term {
	if r.wrong {
		return nil
	}
	if r.tongue == 2 && strings.HasPrefix(r.rest, "(") {
		r.skip("(")
		return append(api.Term{0}, r.args(2, " -> ", ")")...)
	}
	bracket := r.tongue == 3 && strings.HasPrefix(r.rest, "[")
	if bracket {
		r.skip("[")
	}
	word := r.word()
	if v := slices.Index(strings.Fields("x0 x1 x2 x3 x4 x5 x6 x7 x8 x9 x10 x11"), word); v >= 0 && !bracket {
		return api.Term{-v - 1}
	}
	i := slices.IndexFunc(r.s, func(symbol api.Symbol) bool { return symbol.Name == word })
	if i < 0 || r.tongue == 2 && i == 0 || r.tongue == 3 && bracket != (r.s[i].Arity > 0) {
		r.wrong = true
		return nil
	}
	if r.s[i].Arity == 0 {
		return api.Term{i}
	}
	signs := [][]string{{" ", " ", ""}, {"(", ", ", ")"}, {" ", " ", "]"}}[r.tongue-1]
	r.skip(signs[0])
	return append(api.Term{i}, r.args(r.s[i].Arity, signs[1], signs[2])...)
}

func (r *reader) args(count int, between, end string) api.Term {
	t := api.Term{}
	for k := range count {
		if k > 0 {
			r.skip(between)
		}
		t = append(t, r.term()...)
	}
	r.skip(end)
	return t
}

// signs has signs with many symbols, and with few.
func signs() []api.Sign {
	return append(sample.RightSigns(), sample.Twins())
}

// terms has terms of a sign: small ones, and random ones of all sizes.
func terms(s api.Sign) []api.Term {
	var d sample.Dice
	l := []api.Term{{-1}, {-12}, {0, -1, -1}, {0, -2, -1}}
	for range 400 {
		most := 1 + d.Roll(api.MaxSize)
		l = append(l, d.Term(s, most, 1+d.Roll(api.MaxVars)))
	}
	return l
}

func full() []api.Sign {
	return []api.Sign{sample.Sign(), sample.Twins()}
}

// journeys calls visit with pairs of signs and random dictionaries between
// them.
func journeys(count int, visit func(a, b api.Sign, d []api.Way)) {
	var dice sample.Dice
	for range count {
		for _, a := range full() {
			for _, b := range full() {
				visit(a, b, dice.Ways(a, b))
			}
		}
		for _, s := range full() {
			visit(s, s, dice.OneToOne(s))
		}
	}
}
