package house

import (
	"slices"

	"lemmary/api"
	"lemmary/deps"
	"lemmary/kernel"
	"lemmary/short"
	"lemmary/term"
)

// statement is a term that somebody says, and how it is to be called.
type statement struct {
	name, by string
	says     api.Term
}

// entry returns the axiom that a statement is.
func (c statement) entry(s api.Sign) api.Entry {
	form, e := term.Canonical(s, c.says)
	done(e)
	return api.Entry{Name: c.name, By: c.by, Says: form}
}

// claim is a statement with a proof, from what it uses.
type claim struct {
	statement
	uses []string
	tree string
}

// entry returns the entry that a claim is, holding or not. What it uses must be
// there, and so must some other names.
func (c claim) entry(l edition, names ...string) api.Entry {
	x := c.statement.entry(l.sign)
	x.Uses = slices.Clone(c.uses)
	// Any proof does to tell whether all but the proof is valid.
	x.Proof = []api.Step{{Kind: api.SCite}}
	need(deps.ValidEntry(l.sign, x), api.ErrInvalid)
	for _, name := range append(names, x.Uses...) {
		l.entry(name)
	}
	p, e := kernel.Untree(len(x.Uses), c.tree)
	done(e)
	x.Proof = p
	return x
}

// The commands.
type (
	axiom   struct{ statement }
	prove   struct{ claim }
	set     struct{ claim }
	rename  struct{ name, new, by string }
	drop    struct{ name, by string }
	shorten struct{ name, by string }
)

func (c axiom) deed(l edition) edition {
	return l.after(api.Change{Kind: api.CAdd, By: c.by, Entry: c.entry(l.sign)})
}

func (c prove) deed(l edition) edition {
	next := l.after(api.Change{Kind: api.CAdd, By: c.by, Entry: c.entry(l)})
	next.hold(c.name)
	return next
}

func (c set) deed(l edition) edition {
	next := l.after(api.Change{Kind: api.CSet, By: c.by, Entry: c.entry(l, c.name)})
	_, e := deps.Order(next.sign, next.entries)
	done(e)
	next.hold(c.name)
	return next
}

func (c rename) deed(l edition) edition {
	return l.after(api.Change{Kind: api.CName, By: c.by, Name: c.name, New: c.new})
}

func (c drop) deed(l edition) edition {
	return l.after(api.Change{Kind: api.CDrop, By: c.by, Name: c.name})
}

func (c shorten) deed(l edition) edition {
	need(deps.Name(c.name) && deps.Name(c.by), api.ErrInvalid)
	x := l.entry(c.name)
	need(len(x.Proof) > 0, api.ErrState)
	givens := []api.Term{}
	for _, name := range x.Uses {
		givens = append(givens, l.entry(name).Says)
	}
	p, e := short.Shortest(l.sign, givens, x.Proof)
	done(e)
	need(!slices.Equal(p, x.Proof), api.ErrNone)
	x.By, x.Proof = c.by, p
	return l.after(api.Change{Kind: api.CSet, By: c.by, Entry: x})
}
