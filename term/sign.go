package term

import (
	"strconv"
	"strings"

	"lemmary/api"
)

// ValidSign reports whether a sign is valid.
func ValidSign(s api.Sign) bool {
	if len(s) < 1 || len(s) > api.MaxSymbols || s[0].Arity != 2 {
		return false
	}
	taken := map[string]bool{}
	for _, symbol := range s {
		if !validName(symbol.Name) || taken[symbol.Name] {
			return false
		}
		if symbol.Arity < 0 || symbol.Arity > api.MaxArity {
			return false
		}
		taken[symbol.Name] = true
	}
	return true
}

func validName(name string) bool {
	if len(name) < 1 || len(name) > api.MaxWord {
		return false
	}
	for i := range len(name) {
		if !letter(name[i]) {
			return false
		}
	}
	return true
}

func letter(c byte) bool {
	return 'a' <= c && c <= 'z' || 'A' <= c && c <= 'Z'
}

// Format returns the text of a sign, which is empty if the sign is not valid.
func Format(s api.Sign) string {
	if !ValidSign(s) {
		return ""
	}
	words := make([]string, len(s))
	for i, symbol := range s {
		words[i] = symbol.Name + "/" + strconv.Itoa(symbol.Arity)
	}
	return strings.Join(words, " ")
}

// Parse reads the text of a valid sign, as Format returns it.
func Parse(text string) (api.Sign, api.Errno) {
	if len(text) > api.MaxText {
		return nil, api.ErrLong
	}
	words := strings.Split(text, " ")
	s := make(api.Sign, len(words))
	for i, word := range words {
		symbol, ok := parseSymbol(word)
		if !ok {
			return nil, api.ErrSyntax
		}
		s[i] = symbol
	}
	if !ValidSign(s) {
		return nil, api.ErrSyntax
	}
	return s, api.OK
}

// parseSymbol leaves the name to ValidSign. One digit is all that an arity can
// have, so that signs and leading zeros never get as far as a number.
func parseSymbol(word string) (api.Symbol, bool) {
	name, arity, found := strings.Cut(word, "/")
	if !found || len(arity) != 1 || arity[0] < '0' || arity[0] > '9' {
		return api.Symbol{}, false
	}
	return api.Symbol{Name: name, Arity: int(arity[0] - '0')}, true
}
