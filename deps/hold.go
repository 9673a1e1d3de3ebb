package deps

import (
	"slices"

	"lemmary/api"
	"lemmary/term"
)

// Holds reports whether an entry of a library holds.
func Holds(s api.Sign, l []api.Entry, name string) (bool, api.Errno) {
	known, x, e := looked(s, l, name)
	if e != api.OK {
		return false, e
	}
	return known.holds(x), api.OK
}

// holds reports whether an entry holds, whatever those that it cites do.
func (l *library) holds(x api.Entry) bool {
	t, e := l.strongest(x)
	return e == api.OK && l.instance(t, x.Says)
}

// strongest returns what the last step of an entry's proof says, or what an
// axiom says.
func (l *library) strongest(x api.Entry) (api.Term, api.Errno) {
	if isAxiom(x) {
		return slices.Clone(x.Says), api.OK
	}
	givens := make([]api.Term, len(x.Uses))
	for i, name := range x.Uses {
		used, there := l.entry(name)
		if !there {
			return nil, api.ErrProof
		}
		givens[i] = used.Says
	}
	return l.says(givens, x.Proof)
}

// Strongest returns what the last step of an entry's proof says.
func Strongest(s api.Sign, l []api.Entry, name string) (api.Term, api.Errno) {
	known, x, e := looked(s, l, name)
	if e != api.OK {
		return nil, e
	}
	return known.strongest(x)
}

// failing tells of each name whether its entry is there and does not hold.
func (l *library) failing() map[string]bool {
	fails := map[string]bool{}
	for _, x := range l.entries {
		fails[x.Name] = !l.holds(x)
	}
	return fails
}

// Failing returns the entries of a library that do not hold.
func Failing(s api.Sign, l []api.Entry) ([]string, api.Errno) {
	known, e := opened(s, l)
	if e != api.OK {
		return nil, e
	}
	fails := known.failing()
	return known.names(func(x api.Entry) bool { return fails[x.Name] }), api.OK
}

// Sound reports whether a library is sound.
func Sound(s api.Sign, l []api.Entry) (bool, api.Errno) {
	failing, e := Failing(s, l)
	if e != api.OK {
		return false, e
	}
	whole, e := Whole(s, l)
	return whole && len(failing) == 0, e
}

// shaken reports whether an entry holds and leans on one that does not, where
// fails has those. Whatever cites a missing name does not hold, so that what
// leans on a missing name and holds leans on one that does not hold.
func (l *library) shaken(fails map[string]bool, name string) bool {
	on := l.leans(name)
	failsBelow := func(x api.Entry) bool { return on[x.Name] && fails[x.Name] }
	return !fails[name] && slices.ContainsFunc(l.entries, failsBelow)
}

// Shaken returns the entries of a library that hold, and lean on one that does
// not hold or on a name that is missing.
func Shaken(s api.Sign, l []api.Entry) ([]string, api.Errno) {
	known, e := opened(s, l)
	if e != api.OK {
		return nil, e
	}
	fails := known.failing()
	return known.names(func(x api.Entry) bool { return known.shaken(fails, x.Name) }), api.OK
}

// Breaks returns the entries of a library that hold, and would not hold if an
// entry said another term.
func Breaks(s api.Sign, l []api.Entry, name string, t api.Term) ([]string, api.Errno) {
	known, _, e := looked(s, l, name)
	if !term.IsCanonical(s, t) {
		e = api.ErrInvalid
	}
	if e != api.OK {
		return nil, e
	}
	others := slices.Clone(l)
	others[known.index[name]].Says = t
	other := &library{sign: known.sign, entries: others, index: known.index}
	now, then := known.failing(), other.failing()
	return known.names(func(x api.Entry) bool { return then[x.Name] && !now[x.Name] }), api.OK
}

// Loses returns the entries of a library that hold and are not shaken, and
// would be shaken or not hold if an entry were not there. They are those that
// lean on it: for all others nothing would change.
func Loses(s api.Sign, l []api.Entry, name string) ([]string, api.Errno) {
	known, _, e := looked(s, l, name)
	if e != api.OK {
		return nil, e
	}
	fails := known.failing()
	return known.names(func(x api.Entry) bool {
		stands := !fails[x.Name] && !known.shaken(fails, x.Name)
		return stands && x.Name != name && known.leans(x.Name)[name]
	}), api.OK
}
