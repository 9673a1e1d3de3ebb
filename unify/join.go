package unify

import (
	"lemmary/api"
)

// parts is two parts that stand side by side in two terms. A struct of slices
// can be no key of a map, so they are kept as texts.
type parts struct {
	left, right string
}

// Join returns the join of two terms.
func Join(s api.Sign, a, b api.Term) (api.Term, api.Errno) {
	if !valid(s, a, b) {
		return nil, api.ErrInvalid
	}
	t, vars := logic{s}.join(a, b)
	if vars > api.MaxVars {
		return nil, api.ErrLimit
	}
	return t, api.OK
}

// join returns the join of two valid terms, and how many variables it has. Each
// pair of parts that differ at their beginnings becomes a variable of its own,
// wherever it comes.
func (l logic) join(a, b api.Term) (t api.Term, vars int) {
	met := map[parts]int{}
	for i, k := 0, 0; i < len(a); {
		if a[i] >= 0 && a[i] == b[k] {
			t = append(t, a[i])
			i, k = i+1, k+1
			continue
		}
		behindI, behindK := l.behind(a, i), l.behind(b, k)
		pair := parts{text(a[i:behindI]), text(b[k:behindK])}
		if _, known := met[pair]; !known {
			met[pair] = -len(met) - 1
		}
		t = append(t, met[pair])
		i, k = behindI, behindK
	}
	return t, len(met)
}

// text returns a text that tells a valid term from all others.
func text(t api.Term) string {
	letters := make([]byte, len(t))
	for i, x := range t {
		letters[i] = byte(x + api.MaxVars)
	}
	return string(letters)
}
