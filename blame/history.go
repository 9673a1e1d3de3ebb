package blame

import (
	"slices"

	"lemmary/api"
	"lemmary/deps"
	"lemmary/term"
)

// Blame returns a mark for each entry of the edition that changes make.
func Blame(s api.Sign, c []api.Change) ([]api.Mark, api.Errno) {
	l, _, e := Played(s, nil, c)
	if e != api.OK {
		return nil, e
	}
	marks := []api.Mark{}
	told := histories(c)
	for _, x := range l {
		mark := api.Mark{Name: x.Name, First: c[told[x.Name][0]].By}
		for _, i := range told[x.Name] {
			if c[i].Kind != api.CName {
				mark.Last = c[i].By
			}
		}
		marks = append(marks, mark)
	}
	return marks, api.OK
}

// History returns the indexes of the changes that made or changed the entry that
// has a name at the end.
func History(s api.Sign, c []api.Change, name string) ([]int, api.Errno) {
	if _, _, e := Played(s, nil, c); e != api.OK {
		return nil, e
	}
	history, there := histories(c)[name]
	if !there {
		return nil, api.ErrName
	}
	return history, api.OK
}

// histories returns for the name of each entry that is there after some changes
// the indexes of those that made or changed it. All of them can be made.
func histories(c []api.Change) map[string][]int {
	told := map[string][]int{}
	for i, x := range c {
		before, after := called(x)
		history := append(told[before], i)
		delete(told, before)
		if after != "" {
			told[after] = history
		}
	}
	return told
}

// called returns how the entry that a change is about is called before it and
// after it; the empty string is for an entry that is not there.
func called(c api.Change) (before, after string) {
	switch c.Kind {
	case api.CAdd:
		return "", c.Entry.Name
	case api.CSet:
		return c.Entry.Name, c.Entry.Name
	}
	return c.Name, c.New
}

// First returns the least number of changes after which an entry says something
// of which a term is an instance.
func First(s api.Sign, c []api.Change, t api.Term) (int, api.Errno) {
	_, _, e := Played(s, nil, c)
	if !term.Valid(s, t) {
		e = api.ErrInvalid
	}
	if e != api.OK {
		return 0, e
	}
	form, _ := term.Canonical(s, t)
	// Only a change that has an entry lets one say something new.
	i := slices.IndexFunc(c, func(x api.Change) bool { return proves(s, x.Entry, form) })
	if i < 0 {
		return 0, api.ErrNone
	}
	return i + 1, api.OK
}

// proves reports whether a canonical term is an instance of what an entry says:
// it would hold by citing nothing else. The empty entry says nothing.
func proves(s api.Sign, x api.Entry, t api.Term) bool {
	given := api.Entry{Name: "given", By: "first", Says: x.Says}
	claim := api.Entry{Name: "claim", By: "first", Says: t, Uses: []string{given.Name}, Proof: []api.Step{{Kind: api.SCite}}}
	holds, e := deps.Holds(s, []api.Entry{given, claim}, claim.Name)
	return e == api.OK && holds
}
