package house

import "lemmary/api"

// command is what can be done in a house.
type command interface {
	// text returns the command's Text, if it can be done.
	text(s api.Sign) string
	// deed returns what becomes of an edition. It is left by a panic, a failure,
	// if the command fails.
	deed(l edition) edition
}

// failure is the error of a command that fails.
type failure api.Errno

// need leaves a deed with an error, unless something is so.
func need(so bool, e api.Errno) {
	if !so {
		panic(failure(e))
	}
}

// done leaves a deed with an error, if it is one.
func done(e api.Errno) {
	need(e == api.OK, e)
}

// do lets a command change the house, and adds its line to the book.
func (h *House) do(c command) (e api.Errno) {
	if h == nil {
		return api.ErrInvalid
	}
	if len(h.book) == api.MaxLines {
		return api.ErrLimit
	}
	defer func() {
		if why, failed := recover().(failure); failed {
			e = api.Errno(why)
		}
	}()
	h.edition = c.deed(h.edition)
	h.book = append(h.book, behind(h.book.last(), c.text(h.sign)))
	return api.OK
}

// Axiom adds an axiom.
func (h *House) Axiom(name, by string, t api.Term) api.Errno {
	return h.do(axiom{statement{name, by, t}})
}

// Prove adds an entry with the proof that a tree is.
func (h *House) Prove(name, by string, t api.Term, uses []string, tree string) api.Errno {
	return h.do(prove{claim{statement{name, by, t}, uses, tree}})
}

// Set puts an entry with the proof that a tree is in the place of the one with
// its name.
func (h *House) Set(name, by string, t api.Term, uses []string, tree string) api.Errno {
	return h.do(set{claim{statement{name, by, t}, uses, tree}})
}

// Rename gives an entry another name.
func (h *House) Rename(name, new, by string) api.Errno {
	return h.do(rename{name: name, new: new, by: by})
}

// Drop takes an entry out.
func (h *House) Drop(name, by string) api.Errno {
	return h.do(drop{name: name, by: by})
}

// Shorten gives an entry the shortest form of its proof.
func (h *House) Shorten(name, by string) api.Errno {
	return h.do(shorten{name: name, by: by})
}
