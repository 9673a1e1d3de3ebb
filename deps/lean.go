package deps

import (
	"slices"

	"lemmary/api"
)

// Missing returns the names that entries of a library cite and that are not
// there.
func Missing(s api.Sign, l []api.Entry) ([]string, api.Errno) {
	known, e := opened(s, l)
	if e != api.OK {
		return nil, e
	}
	return known.missing(), api.OK
}

// Leans returns the names that are there on which an entry leans.
func Leans(s api.Sign, l []api.Entry, name string) ([]string, api.Errno) {
	known, _, e := looked(s, l, name)
	if e != api.OK {
		return nil, e
	}
	on := known.leans(name)
	return known.names(func(x api.Entry) bool { return on[x.Name] }), api.OK
}

// Users returns the entries that lean on an entry.
func Users(s api.Sign, l []api.Entry, name string) ([]string, api.Errno) {
	known, _, e := looked(s, l, name)
	if e != api.OK {
		return nil, e
	}
	return known.names(func(x api.Entry) bool { return known.leans(x.Name)[name] }), api.OK
}

// Axioms returns the axioms among what an entry leans on; of an axiom, itself.
func Axioms(s api.Sign, l []api.Entry, name string) ([]string, api.Errno) {
	known, _, e := looked(s, l, name)
	if e != api.OK {
		return nil, e
	}
	on := known.leans(name)
	return known.names(func(x api.Entry) bool { return isAxiom(x) && (on[x.Name] || x.Name == name) }), api.OK
}

// Idle returns the entries of a library that nobody cites.
func Idle(s api.Sign, l []api.Entry) ([]string, api.Errno) {
	known, e := opened(s, l)
	if e != api.OK {
		return nil, e
	}
	cited := known.cited()
	return known.names(func(x api.Entry) bool { return !slices.Contains(cited, x.Name) }), api.OK
}
