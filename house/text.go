package house

import (
	"slices"
	"strings"

	"lemmary/api"
	"lemmary/term"
	"lemmary/tongue"
)

// arrows is the tongue of texts.
const arrows = 2

// Plain returns a term as texts have it.
func Plain(s api.Sign, t api.Term) (string, api.Errno) {
	text, e := tongue.Write(s, arrows, t)
	return strings.ReplaceAll(text, " ", ""), e
}

// Unplain reads a term as Plain returns it.
func Unplain(s api.Sign, text string) (api.Term, api.Errno) {
	if !term.ValidSign(s) {
		return nil, api.ErrInvalid
	}
	if len(text) > api.MaxText {
		return nil, api.ErrLong
	}
	// A blank of the text itself would be one too many.
	blanks := strings.NewReplacer("->", " -> ", ",", ", ")
	t, e := tongue.Read(s, arrows, blanks.Replace(text))
	if e != api.OK {
		return nil, api.ErrSyntax
	}
	return t, api.OK
}

// The first words of the commands' Texts.
const (
	axiomWord   = "axiom"
	proveWord   = "prove"
	setWord     = "set"
	renameWord  = "rename"
	dropWord    = "drop"
	shortenWord = "shorten"
)

// joined returns the text that some words are.
func joined(words ...string) string {
	return strings.Join(words, " ")
}

// cutWords cuts a text into words with single blanks between them, if it is so.
func cutWords(text string) (words []string, cut bool) {
	words = strings.Split(text, " ")
	return words, !slices.Contains(words, "")
}

// plain returns the canonical form of what a statement says.
func (c statement) plain(s api.Sign) string {
	text, _ := Plain(s, c.entry(s).Says)
	return text
}

func (c axiom) text(s api.Sign) string {
	return joined(axiomWord, c.name, c.by, c.plain(s))
}

func (c prove) text(s api.Sign) string {
	return joined(proveWord, c.name, c.by, c.plain(s), strings.Join(c.uses, ","), c.tree)
}

func (c set) text(s api.Sign) string {
	return joined(setWord, c.name, c.by, c.plain(s), strings.Join(c.uses, ","), c.tree)
}

func (c rename) text(api.Sign) string {
	return joined(renameWord, c.name, c.new, c.by)
}

func (c drop) text(api.Sign) string {
	return joined(dropWord, c.name, c.by)
}

func (c shorten) text(api.Sign) string {
	return joined(shortenWord, c.name, c.by)
}

// opening is the first word of a Text, and how many words it has.
type opening struct {
	word  string
	words int
}

// begun returns a command of the kind whose Texts have an opening, or nil.
func begun(o opening) command {
	kinds := map[opening]command{
		{axiomWord, 4}: axiom{}, {proveWord, 6}: prove{}, {setWord, 6}: set{},
		{renameWord, 4}: rename{}, {dropWord, 3}: drop{}, {shortenWord, 3}: shorten{},
	}
	return kinds[o]
}

// read returns the command of which words are the Text, if they are one.
func read(s api.Sign, words []string) (command, bool) {
	rest := words[1:]
	switch begun(opening{words[0], len(words)}).(type) {
	case axiom:
		said, known := stated(s, rest)
		return axiom{said}, known
	case prove:
		said, known := claimed(s, rest)
		return prove{said}, known
	case set:
		said, known := claimed(s, rest)
		return set{said}, known
	case rename:
		return rename{name: rest[0], new: rest[1], by: rest[2]}, true
	case drop:
		return drop{name: rest[0], by: rest[1]}, true
	case shorten:
		return shorten{name: rest[0], by: rest[1]}, true
	}
	return nil, false
}

// stated returns the statement that the words NAME BY TERM are, if TERM is known.
func stated(s api.Sign, words []string) (said statement, known bool) {
	t, e := Unplain(s, words[2])
	return statement{name: words[0], by: words[1], says: t}, e == api.OK
}

// claimed returns the claim that the words NAME BY TERM USES TREE are, if TERM is
// known.
func claimed(s api.Sign, words []string) (said claim, known bool) {
	said.statement, known = stated(s, words)
	said.uses, said.tree = strings.Split(words[3], ","), words[4]
	return said, known
}
