package deps

import (
	"strconv"
	"strings"

	"lemmary/api"
	"lemmary/kernel"
	"lemmary/unify"
)

// sign is a valid sign, with what it tells of valid terms and proofs.
type sign api.Sign

// says returns what a proof says: ErrProof if a step says nothing.
func (s sign) says(givens []api.Term, p []api.Step) (api.Term, api.Errno) {
	t, e := kernel.Says(api.Sign(s), givens, p)
	if e != api.OK {
		return nil, api.ErrProof
	}
	return t, api.OK
}

// instance reports whether b is an instance of a.
func (s sign) instance(a, b api.Term) bool {
	return unify.Instance(api.Sign(s), a, b)
}

// polish returns a term in Polish.
func (s sign) polish(t api.Term) string {
	words := make([]string, len(t))
	for i, x := range t {
		if x < 0 {
			words[i] = variable(-x - 1)
		} else {
			words[i] = s[x].Name
		}
	}
	return strings.Join(words, " ")
}

func variable(v int) string {
	return "x" + strconv.Itoa(v)
}

// meant returns the numbers for which words in Polish stand, or nothing if one
// stands for none. A name has no digits, so that it is never that of a variable.
func (s sign) meant(text string) api.Term {
	numbers := map[string]int{}
	for i, symbol := range s {
		numbers[symbol.Name] = i
	}
	for v := range api.MaxVars {
		numbers[variable(v)] = -v - 1
	}
	t := api.Term{}
	for _, word := range strings.Split(text, " ") {
		x, known := numbers[word]
		if !known {
			return nil
		}
		t = append(t, x)
	}
	return t
}
