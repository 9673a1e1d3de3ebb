package house_test

import (
	"fmt"
	"hash/fnv"
	"slices"
	"strconv"
	"strings"
	"testing"

	"lemmary/api"
	"lemmary/deps"
	"lemmary/house"
	"lemmary/kernel"
	"lemmary/sample"
	"lemmary/short"
	"lemmary/term"
)

// logic is the script of the chapter's example.
const logic = "axiom k ann (x0->(x1->x0))\naxiom s ann ((x0->(x1->x2))->((x0->x1)->(x0->x2)))\nprove i bob (x0->x0) s,k DDg00g01g01\n"

// opened returns a house of the sign of package sample after a script of commands,
// all of which can be done.
func opened(t testing.TB, script string) *house.House {
	t.Helper()
	h, e := house.New(sample.Sign())
	if e != api.OK {
		t.Fatalf("New: %d", e)
	}
	run(t, h, script)
	return h
}

// run does a script of commands, all of which can be done.
func run(t testing.TB, h *house.House, script string) {
	t.Helper()
	if got := house.Do(h, script); got != strings.Repeat("ok\n", strings.Count(script, "\n")) {
		t.Fatalf("the script\n%s\nprints\n%s", script, got)
	}
}

// told tells all that a house tells of itself.
func told(h *house.House) string {
	return fmt.Sprint(h.Sign(), h.Entries(), h.Changes(), h.Lines(), h.Bytes())
}

// act is a command as the arguments of its method.
type act struct {
	word, name, by, new string
	says                api.Term
	uses                []string
	tree                string
}

// acted returns the command of which a text is the Text.
func acted(text string) act {
	words := strings.Split(text, " ")
	a := act{word: words[0], name: words[1], by: words[2]}
	switch a.word {
	case "rename":
		a.new, a.by = words[2], words[3]
	case "prove", "set":
		a.uses, a.tree = strings.Split(words[4], ","), words[5]
	}
	if len(words) > 3 {
		a.says, _ = house.Unplain(sample.Sign(), words[3])
	}
	return a
}

// in does the command in a house.
func (a act) in(h *house.House) api.Errno {
	switch a.word {
	case "axiom":
		return h.Axiom(a.name, a.by, a.says)
	case "prove":
		return h.Prove(a.name, a.by, a.says, a.uses, a.tree)
	case "set":
		return h.Set(a.name, a.by, a.says, a.uses, a.tree)
	case "rename":
		return h.Rename(a.name, a.new, a.by)
	case "drop":
		return h.Drop(a.name, a.by)
	}
	return h.Shorten(a.name, a.by)
}

// text returns the Text of the command.
func (a act) text() string {
	words := []string{a.word, a.name, a.by}
	switch a.word {
	case "rename":
		words = []string{a.word, a.name, a.new, a.by}
	case "axiom", "prove", "set":
		says, _ := house.Plain(sample.Sign(), sample.Form(a.says))
		words = append(words, says)
	}
	if a.word == "prove" || a.word == "set" {
		words = append(words, strings.Join(a.uses, ","), a.tree)
	}
	return strings.Join(words, " ")
}

// at returns the index of the entry with a name, or -1.
func at(l []api.Entry, name string) int {
	return slices.IndexFunc(l, func(x api.Entry) bool { return x.Name == name })
}

// after tells by the chapter's words which change of entries a command is, or
// why it fails.
func (a act) after(l []api.Entry) (api.Change, api.Errno) {
	named := deps.Name(a.name) && deps.Name(a.by)
	missing := func(names ...string) bool {
		return slices.ContainsFunc(names, func(name string) bool { return at(l, name) < 0 })
	}
	switch a.word {
	case "axiom":
		return a.added(nil), first(
			cause{!named || !term.Valid(sample.Sign(), a.says), api.ErrInvalid},
			cause{!missing(a.name), api.ErrDuplicate},
			cause{len(l) == api.MaxEntries, api.ErrLimit})
	case "prove", "set":
		return a.claimed(l, named, missing)
	case "rename":
		return api.Change{Kind: api.CName, By: a.by, Name: a.name, New: a.new}, first(
			cause{!named || !deps.Name(a.new) || a.new == a.name, api.ErrInvalid},
			cause{missing(a.name), api.ErrName},
			cause{!missing(a.new), api.ErrDuplicate})
	case "drop":
		used := slices.ContainsFunc(l, func(x api.Entry) bool { return slices.Contains(x.Uses, a.name) })
		return api.Change{Kind: api.CDrop, By: a.by, Name: a.name}, first(
			cause{!named, api.ErrInvalid}, cause{missing(a.name), api.ErrName}, cause{used, api.ErrState})
	}
	e := first(cause{!named, api.ErrInvalid}, cause{missing(a.name), api.ErrName})
	if e != api.OK {
		return api.Change{}, e
	}
	x := l[at(l, a.name)]
	shortest, _ := short.Shortest(sample.Sign(), givens(l, x.Uses), x.Proof)
	e = first(cause{len(x.Proof) == 0, api.ErrState}, cause{slices.Equal(shortest, x.Proof), api.ErrNone})
	x.By, x.Proof = a.by, shortest
	return api.Change{Kind: api.CSet, By: a.by, Entry: x}, e
}

// claimed tells which change of entries Prove or Set is, or why it fails.
func (a act) claimed(l []api.Entry, named bool, missing func(names ...string) bool) (api.Change, api.Errno) {
	unique := slices.Compact(slices.Sorted(slices.Values(a.uses)))
	uses := len(a.uses) > 0 && len(a.uses) <= api.MaxUses && len(unique) == len(a.uses)
	for _, name := range a.uses {
		uses = uses && deps.Name(name)
	}
	e := first(
		cause{!named || !term.Valid(sample.Sign(), a.says) || !uses, api.ErrInvalid},
		cause{a.word == "set" && missing(a.name), api.ErrName},
		cause{missing(a.uses...), api.ErrName})
	if e != api.OK {
		return api.Change{}, e
	}
	p, e := kernel.Untree(len(a.uses), a.tree)
	if e != api.OK {
		return api.Change{}, e
	}
	c := a.added(p)
	if a.word == "prove" {
		proves := kernel.Proves(sample.Sign(), givens(l, a.uses), p, a.says)
		return c, first(cause{!missing(a.name), api.ErrDuplicate}, cause{len(l) == api.MaxEntries, api.ErrLimit}, cause{!proves, api.ErrProof})
	}
	c.Kind = api.CSet
	i := at(l, a.name)
	same := sample.SameEntries(l[i:i+1], []api.Entry{c.Entry})
	then := slices.Clone(l)
	then[i] = c.Entry
	_, circle := deps.Circle(sample.Sign(), then)
	sound, _ := deps.Sound(sample.Sign(), then)
	return c, first(cause{same, api.ErrNone}, cause{circle == api.OK, api.ErrCircle}, cause{!sound, api.ErrProof})
}

// added returns the change that adds an entry with a proof.
func (a act) added(p []api.Step) api.Change {
	x := api.Entry{Name: a.name, By: a.by, Says: sample.Form(a.says), Uses: a.uses, Proof: p}
	return api.Change{Kind: api.CAdd, By: a.by, Entry: x}
}

// givens returns what the entries with some names say.
func givens(l []api.Entry, names []string) []api.Term {
	g := []api.Term{}
	for _, name := range names {
		g = append(g, l[at(l, name)].Says)
	}
	return g
}

// cause is an error, and whether there is a cause for it.
type cause struct {
	is bool
	e  api.Errno
}

// first returns the first error for which there is a cause.
func first(causes ...cause) api.Errno {
	for _, c := range causes {
		if c.is {
			return c.e
		}
	}
	return api.OK
}

// bound returns the lines of a book with some Texts, and its bytes.
func bound(texts ...string) (lines []api.Line, bytes []byte) {
	last := uint64(0)
	for i, text := range texts {
		sum := fnv.New64a()
		fmt.Fprintf(sum, "%d %d %s", last, i, text)
		last = sum.Sum64()
		lines = append(lines, api.Line{Number: i, Text: text, Sum: last})
		bytes = fmt.Appendf(bytes, "%d %d %s\n", i, last, text)
	}
	return lines, bytes
}

// fails tells what is printed of an error.
func fails(e api.Errno) string {
	return "error " + strconv.Itoa(int(e)) + "\n"
}

// full is a script of so many axioms, called a0, a1, and so on.
func full(count int) string {
	var script strings.Builder
	for i := range count {
		fmt.Fprintf(&script, "axiom a%d ann (x0->x0)\n", i)
	}
	return script.String()
}

// halves is a script of so many commands, of which each second one takes back
// the one before; the entry a must be there.
func halves(count int) string {
	return strings.Repeat("rename a b ann\nrename b a bob\n", count/2) + strings.Repeat("rename a b ann\n", count%2)
}
