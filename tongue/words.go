package tongue

import "lemmary/api"

// arrowWord is what stands for the first symbol where it has no name: with
// arrows, the opening parenthesis that no name calls.
const arrowWord = "("

// words cuts a text of any tongue into the words that stand for symbols and
// variables: they are in prefix order in all tongues.
func words(text string) []string {
	words := []string{}
	from := -1 // where the letters and digits begin, if some come just before
	for at, r := range text + " " {
		inside := from >= 0
		switch {
		case alphanumeric(r) && !inside:
			from = at
		case !alphanumeric(r) && inside:
			words = append(words, text[from:at])
			from = -1
		case string(r) == arrowWord:
			words = append(words, arrowWord)
		}
	}
	return words
}

func alphanumeric(r rune) bool {
	return 'a' <= r && r <= 'z' || 'A' <= r && r <= 'Z' || '0' <= r && r <= '9'
}

// meant returns the numbers for which words stand, if each stands for one.
func meant(s api.Sign, words []string) (t api.Term, known bool) {
	numbers := vocabulary(s)
	for _, word := range words {
		x, found := numbers[word]
		if !found {
			return nil, false
		}
		t = append(t, x)
	}
	return t, true
}

// vocabulary has all words that stand for a symbol or a variable. A name has
// no digits, so that it is never that of a variable.
func vocabulary(s api.Sign) map[string]int {
	numbers := map[string]int{arrowWord: 0}
	for i, symbol := range s {
		numbers[symbol.Name] = i
	}
	for v := range api.MaxVars {
		numbers[variable(v)] = -v - 1
	}
	return numbers
}
