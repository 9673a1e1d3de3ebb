package house

import (
	"strconv"
	"strings"

	"lemmary/api"
	"lemmary/deps"
	"lemmary/find"
	"lemmary/kernel"
)

// Do runs a script in a house, line by line, and returns what it prints.
func Do(h *House, text string) string {
	if h == nil {
		return printed("", api.ErrInvalid)
	}
	if len(text) > api.MaxText {
		return printed("", api.ErrLong)
	}
	var all strings.Builder
	for line := range strings.Lines(text) {
		all.WriteString(h.run(strings.TrimSuffix(line, "\n")))
	}
	return all.String()
}

// printed returns what is printed of a text, or instead of it of an error.
func printed(text string, e api.Errno) string {
	if e != api.OK {
		text = joined("error", strconv.Itoa(int(e)))
	}
	return text + "\n"
}

// run runs a line of a script, and returns what it prints.
func (h *House) run(line string) string {
	if line == "" {
		return ""
	}
	words, cut := cutWords(line)
	if !cut {
		return printed("", api.ErrCommand)
	}
	if c, is := read(h.sign, words); is {
		return printed("ok", h.do(c))
	}
	return printed(h.answer(words))
}

// answer answers the query that some words are.
func (l edition) answer(words []string) (string, api.Errno) {
	query := words[0]
	switch len(words) {
	case 1:
		return l.whole(query)
	case 2:
		switch query {
		case "find":
			return l.found(words[1], find.Meeting)
		case "more":
			return l.found(words[1], find.Generals)
		}
		return l.told(query, words[1])
	}
	return "", api.ErrCommand
}

// whole answers a query about all entries.
func (l edition) whole(query string) (string, api.Errno) {
	switch query {
	case "sound": // A house always is.
		return "yes", api.OK
	case "count":
		return strconv.Itoa(len(l.entries)), api.OK
	}
	return "", api.ErrCommand
}

// found answers a query for what a search finds by a TERM.
func (l edition) found(text string, search func(s api.Sign, l []api.Term, q api.Term) ([]int, api.Errno)) (string, api.Errno) {
	t, e := Unplain(l.sign, text)
	if e != api.OK {
		return "", api.ErrCommand
	}
	shelf := []api.Term{}
	for _, x := range l.entries {
		shelf = append(shelf, x.Says)
	}
	// The only error is that of an empty shelf, in which nothing is found.
	indexes, _ := search(l.sign, shelf, t)
	names := []string{}
	for _, i := range indexes {
		names = append(names, l.entries[i].Name)
	}
	return joined(names...), api.OK
}

// told answers a query about the entry with a name.
func (l edition) told(query, name string) (string, api.Errno) {
	queries := map[string]func(x api.Entry) (string, api.Errno){
		"says":   func(x api.Entry) (string, api.Errno) { return Plain(l.sign, x.Says) },
		"tree":   tree,
		"leans":  l.listed(deps.Leans),
		"users":  l.listed(deps.Users),
		"axioms": l.listed(deps.Axioms),
		"blame":  l.blamed,
	}
	ask, known := queries[query]
	if !known {
		return "", api.ErrCommand
	}
	i := l.index(name)
	if i < 0 {
		return "", api.ErrName
	}
	return ask(l.entries[i])
}

// tree returns the tree of an entry's proof.
func tree(x api.Entry) (string, api.Errno) {
	if len(x.Proof) == 0 {
		return "", api.ErrState
	}
	return kernel.Tree(len(x.Uses), x.Proof)
}

// listed returns what lists the names that something of package deps tells of an
// entry.
func (l edition) listed(tell func(s api.Sign, l []api.Entry, name string) ([]string, api.Errno)) func(x api.Entry) (string, api.Errno) {
	return func(x api.Entry) (string, api.Errno) {
		names, e := tell(l.sign, l.entries, x.Name)
		return joined(names...), e
	}
}

// blamed returns who added an entry first, and who changed it last.
func (l edition) blamed(x api.Entry) (string, api.Errno) {
	mark := l.mark(x)
	return joined(mark.First, mark.Last), api.OK
}
