package blame

import (
	"iter"
	"slices"

	"lemmary/api"
	"lemmary/deps"
	"lemmary/term"
)

// Valid reports whether a change is valid for a sign.
func Valid(s api.Sign, c api.Change) bool {
	if !term.ValidSign(s) || !deps.Name(c.By) || c.Kind < api.CAdd || c.Kind > api.CDrop {
		return false
	}
	kinds := [...]func(s api.Sign, c api.Change) bool{api.CAdd: hasEntry, api.CSet: hasEntry, api.CName: hasNames, api.CDrop: hasName}
	return kinds[c.Kind](s, c)
}

// hasEntry reports whether a change has a valid entry, and no names.
func hasEntry(s api.Sign, c api.Change) bool {
	return deps.ValidEntry(s, c.Entry) && c.Name == "" && c.New == ""
}

// hasNames reports whether a change has two different names, and no entry.
func hasNames(_ api.Sign, c api.Change) bool {
	return deps.Name(c.Name) && deps.Name(c.New) && c.Name != c.New && Same(c.Entry, api.Entry{})
}

// hasName reports whether a change has one name, and no entry.
func hasName(_ api.Sign, c api.Change) bool {
	return deps.Name(c.Name) && c.New == "" && Same(c.Entry, api.Entry{})
}

// Made returns an edition after a change.
func Made(s api.Sign, l []api.Entry, c api.Change) ([]api.Entry, api.Errno) {
	made, _, e := Played(s, l, []api.Change{c})
	return made, e
}

// Played returns an edition after some changes, one after the other, and -1; at
// the first one that can't be made, its index.
func Played(s api.Sign, l []api.Entry, c []api.Change) ([]api.Entry, int, api.Errno) {
	if !Edition(s, l) || !allValid(s, c) {
		return nil, 0, api.ErrInvalid
	}
	if len(c) > api.MaxChanges {
		return nil, 0, api.ErrRange
	}
	last, made := edition{}, -1
	for now, e := range editions(l, c) {
		if e != api.OK {
			return nil, made, e
		}
		last = now
		made++
	}
	return last.list(), -1, api.OK
}

// allValid reports whether all changes are valid for a sign.
func allValid(s api.Sign, c []api.Change) bool {
	return !slices.ContainsFunc(c, func(x api.Change) bool { return !Valid(s, x) })
}

// editions gives an edition, and after each change what it is then: always the
// same map. At the first change that can't be made it gives the error, and ends.
func editions(l []api.Entry, c []api.Change) iter.Seq2[edition, api.Errno] {
	return func(yield func(edition, api.Errno) bool) {
		now, e := opened(l), api.OK
		for i := 0; yield(now, e) && e == api.OK && i < len(c); i++ {
			e = now.change(c[i])
		}
	}
}

// At returns the edition after the first n changes.
func At(s api.Sign, c []api.Change, n int) ([]api.Entry, api.Errno) {
	if !term.ValidSign(s) || !allValid(s, c) {
		return nil, api.ErrInvalid
	}
	if len(c) > api.MaxChanges || n < 0 || n > len(c) {
		return nil, api.ErrRange
	}
	l, _, e := Played(s, nil, c[:n])
	return l, e
}

// Undone returns the change that undoes a change that is made in an edition.
func Undone(s api.Sign, l []api.Entry, c api.Change) (api.Change, api.Errno) {
	if _, e := Made(s, l, c); e != api.OK {
		return api.Change{}, e
	}
	was := opened(l)
	if c.Kind == api.CAdd && was.needs(c.Entry.Name) {
		return api.Change{}, api.ErrState
	}
	kinds := [...]func() api.Change{
		api.CAdd:  func() api.Change { return api.Change{Kind: api.CDrop, Name: c.Entry.Name} },
		api.CSet:  func() api.Change { return api.Change{Kind: api.CSet, Entry: copied(was[c.Entry.Name])} },
		api.CName: func() api.Change { return api.Change{Kind: api.CName, Name: c.New, New: c.Name} },
		api.CDrop: func() api.Change { return api.Change{Kind: api.CAdd, Entry: copied(was[c.Name])} },
	}
	undone := kinds[c.Kind]()
	undone.By = c.By
	return undone, api.OK
}

// Apart reports whether two changes can be made in an edition in both orders,
// with the same edition at the end.
func Apart(s api.Sign, l []api.Entry, c, d api.Change) (bool, api.Errno) {
	if !Edition(s, l) || !Valid(s, c) || !Valid(s, d) {
		return false, api.ErrInvalid
	}
	one, _, e := Played(s, l, []api.Change{c, d})
	other, _, f := Played(s, l, []api.Change{d, c})
	return e == api.OK && f == api.OK && slices.EqualFunc(one, other, Same), api.OK
}
