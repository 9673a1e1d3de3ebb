package carry

import (
	"maps"
	"slices"

	"lemmary/api"
	"lemmary/deps"
	"lemmary/unify"
)

// Met returns the names of the axioms of m that are met by l.
func Met(s api.Sign, l, m []api.Entry) ([]string, api.Errno) {
	if !deps.Valid(s, l) || !deps.Valid(s, m) {
		return nil, api.ErrInvalid
	}
	return slices.Sorted(maps.Keys(met(s, l, m))), api.OK
}

// met tells for the name of each axiom of m that is met which entry of l, the
// first one, says something of which it is an instance.
func met(s api.Sign, l, m []api.Entry) map[string]string {
	by := map[string]string{}
	for _, axiom := range m {
		covers := func(x api.Entry) bool { return unify.Instance(s, x.Says, axiom.Says) }
		first := slices.IndexFunc(l, covers)
		if isAxiom(axiom) && first >= 0 {
			by[axiom.Name] = l[first].Name
		}
	}
	return by
}

// Imported returns the library l with the library m imported under a prefix.
func Imported(s api.Sign, l, m []api.Entry, prefix string) ([]api.Entry, api.Errno) {
	if !deps.Valid(s, l) || !deps.Valid(s, m) || !deps.Name(prefix) {
		return nil, api.ErrInvalid
	}
	by := met(s, l, m)
	added := renamed(others(m, by), func(name string) string {
		if other, is := by[name]; is {
			return other
		}
		return behind(prefix, name)
	})
	if slices.ContainsFunc(added, namesTooMuch) || len(l)+len(added) > api.MaxEntries {
		return nil, api.ErrLimit
	}
	if slices.ContainsFunc(added, func(x api.Entry) bool { return isNamed(l, x.Name) }) {
		return nil, api.ErrDuplicate
	}
	if slices.ContainsFunc(added, usesTwice) {
		return nil, api.ErrSize
	}
	return append(copied(l), added...), api.OK
}

// others returns the entries that are not met, where by has those that are.
func others(m []api.Entry, by map[string]string) []api.Entry {
	isMet := func(x api.Entry) bool {
		_, is := by[x.Name]
		return is
	}
	return slices.DeleteFunc(slices.Clone(m), isMet)
}

// usesTwice reports whether an entry uses a name twice.
func usesTwice(x api.Entry) bool {
	return len(different(x.Uses...)) < len(x.Uses)
}

// Owed returns the names of the axioms of l, of the sign a, that are not met by
// m when they are carried to b.
func Owed(a, b api.Sign, d []api.Way, l, m []api.Entry) ([]string, api.Errno) {
	carried, e := Carried(a, b, d, l)
	if e != api.OK || !deps.Valid(b, m) {
		return nil, api.ErrInvalid
	}
	owed := []string{}
	for _, x := range others(carried, met(b, m, carried)) {
		if isAxiom(x) {
			owed = append(owed, x.Name)
		}
	}
	slices.Sort(owed)
	return owed, api.OK
}

// Models reports whether m says all that l's axioms say when they are carried.
func Models(a, b api.Sign, d []api.Way, l, m []api.Entry) (bool, api.Errno) {
	owed, e := Owed(a, b, d, l, m)
	return e == api.OK && len(owed) == 0, e
}
