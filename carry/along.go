package carry

import (
	"slices"

	"lemmary/api"
	"lemmary/deps"
	"lemmary/kernel"
)

// Along returns what the statement of an entry becomes along that of another
// one.
func Along(s api.Sign, l []api.Entry, along, name string) (api.Term, api.Errno) {
	said, e := statements(s, l, along, name)
	if e != api.OK {
		return nil, e
	}
	return kernel.Detach(s, said[0], said[1])
}

// There returns what the statement of an entry becomes along that of t, and then
// along that of u.
func There(s api.Sign, l []api.Entry, t, u, name string) (api.Term, api.Errno) {
	said, e := statements(s, l, t, u, name)
	if e != api.OK {
		return nil, e
	}
	between, e := kernel.Detach(s, said[0], said[2])
	if e != api.OK {
		return nil, e
	}
	return kernel.Detach(s, said[1], between)
}

// statements returns what entries of a library say, by their names. They are
// not copied.
func statements(s api.Sign, l []api.Entry, names ...string) ([]api.Term, api.Errno) {
	said := make([]api.Term, len(names))
	for k, name := range names {
		i, e := deps.Find(s, l, name)
		if e != api.OK {
			return nil, e
		}
		said[k] = l[i].Says
	}
	return said, api.OK
}

// Moved returns an entry that says what the statement of an entry becomes along
// that of another one.
func Moved(s api.Sign, l []api.Entry, along, name, new, by string) (api.Entry, api.Errno) {
	if _, e := starting(s, l, new, by, along, name); e != api.OK {
		return api.Entry{}, e
	}
	uses := different(along, name)
	proof := detaching(len(uses), citing(0), citing(1))
	if along == name {
		proof = append(citing(0), api.Step{Kind: api.SDetach})
	}
	return proved(s, l, api.Entry{Name: new, By: by, Uses: uses, Proof: proof})
}

// starting returns what entries of a library say, of which an entry with a new
// name, by somebody, is to be made.
func starting(s api.Sign, l []api.Entry, new, by string, names ...string) ([]api.Term, api.Errno) {
	if !deps.Valid(s, l) || !deps.Name(new) || !deps.Name(by) {
		return nil, api.ErrInvalid
	}
	said, e := statements(s, l, names...)
	if e != api.OK {
		return nil, e
	}
	if isNamed(l, new) {
		return nil, api.ErrDuplicate
	}
	return said, api.OK
}

// different returns names, each once, in the order in which they come first.
func different(names ...string) []string {
	list := []string{}
	for _, name := range names {
		if !slices.Contains(list, name) {
			list = append(list, name)
		}
	}
	return list
}

// citing returns the proof that cites a given.
func citing(given int) []api.Step {
	return []api.Step{{Kind: api.SCite, A: given}}
}

// detaching returns the proof in which what a proof says is a major, and what
// others say are its minors, one after the other.
func detaching(givens int, p []api.Step, minors ...[]api.Step) []api.Step {
	for _, q := range minors {
		p, _ = kernel.Joined(givens, p, q)
	}
	return p
}

// proved returns an entry that says what its proof says.
func proved(s api.Sign, l []api.Entry, x api.Entry) (api.Entry, api.Errno) {
	givens, _ := statements(s, l, x.Uses...)
	says, e := kernel.Says(s, givens, x.Proof)
	if e != api.OK {
		return api.Entry{}, e
	}
	x.Says = says
	return x, api.OK
}
