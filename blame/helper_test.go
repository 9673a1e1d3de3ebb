package blame_test

import (
	"cmp"
	"slices"
	"strings"
	"testing"

	"lemmary/api"
	"lemmary/kernel"
	"lemmary/sample"
)

// written returns the entries that a text is, a word an entry: its name, a ! if
// it says C x0 x0 and not K, a slash and by whom it is if not by ann, and a
// colon and the names that it uses, if it uses some.
func written(text string) []api.Entry {
	l := []api.Entry{}
	for _, word := range strings.Fields(text) {
		head, uses, proved := strings.Cut(word, ":")
		head, by, other := strings.Cut(head, "/")
		x := api.Entry{Name: strings.TrimSuffix(head, "!"), By: "ann", Says: sample.K()}
		if strings.HasSuffix(head, "!") {
			x.Says = api.Term{0, -1, -1}
		}
		if other {
			x.By = by
		}
		if proved {
			x.Uses, x.Proof = strings.Split(uses, ","), sample.Doubling(1)
		}
		l = append(l, x)
	}
	return l
}

// changes returns the changes that a text is, each as one of these, with
// semicolons between them: add BY ENTRY, set BY ENTRY, name BY NAME NEW, drop BY
// NAME.
func changes(text string) []api.Change {
	list := []api.Change{}
	for _, part := range strings.Split(text, ";") {
		words := strings.Fields(part)
		if len(words) == 0 {
			continue
		}
		c := api.Change{Kind: slices.Index([]string{"", "add", "set", "name", "drop"}, words[0]), By: words[1]}
		switch c.Kind {
		case api.CAdd, api.CSet:
			c.Entry = written(words[2])[0]
		case api.CName:
			c.Name, c.New = words[2], words[3]
		case api.CDrop:
			c.Name = words[2]
		}
		list = append(list, c)
	}
	return list
}

// change returns the change that a text is.
func change(text string) api.Change {
	return changes(text)[0]
}

// checkEdition fails unless a result is the edition that a text is, or an error.
func checkEdition(t *testing.T, called string, l []api.Entry, e api.Errno, want string, wrong api.Errno) {
	t.Helper()
	if e != wrong || !sample.SameEntries(l, written(want)) {
		t.Errorf("%s = %v, %d; want %q, %d", called, l, e, want, wrong)
	}
}

// sameChanges reports whether two lists have changes that are equal in all
// fields.
func sameChanges(a, b []api.Change) bool {
	return slices.EqualFunc(a, b, func(c, d api.Change) bool {
		same := c.Kind == d.Kind && c.By == d.By && c.Name == d.Name && c.New == d.New
		return same && sample.SameEntries([]api.Entry{c.Entry}, []api.Entry{d.Entry})
	})
}

func byName(x, y api.Entry) int {
	return cmp.Compare(x.Name, y.Name)
}

// at returns the index of the entry with a name, or -1.
func at(l []api.Entry, name string) int {
	return slices.IndexFunc(l, func(x api.Entry) bool { return x.Name == name })
}

// uses reports whether an entry that has not a name uses it.
func uses(l []api.Entry, name string) bool {
	return slices.ContainsFunc(l, func(x api.Entry) bool { return x.Name != name && slices.Contains(x.Uses, name) })
}

// without returns an edition without one of its entries.
func without(l []api.Entry, i int) []api.Entry {
	return slices.Delete(slices.Clone(l), i, i+1)
}

// dealt returns a random edition of up to so many entries, some of which may
// cite names that are missing or lean on themselves.
func dealt(d *sample.Dice, most int) []api.Entry {
	says := func(g []api.Term, p []api.Step) (api.Term, api.Errno) { return kernel.Says(sample.Sign(), g, p) }
	if d.Roll(10) == 0 {
		return nil
	}
	l := d.Library(1+d.Roll(most), says)
	slices.SortFunc(l, byName)
	return l
}

// turned returns an entry with another field than it has, or the same one.
func turned(d *sample.Dice, x api.Entry) api.Entry {
	switch d.Roll(5) {
	case 0:
		x.By = "dan"
	case 1:
		x.Says = api.Term{1, 2}
	case 2:
		x.Uses, x.Proof = []string{"n1", "n0", "m2"}, sample.Doubling(2)
	case 3:
		x.Uses, x.Proof = nil, nil
	}
	return x
}

// dealtChange returns a random valid change, most often about an edition.
func dealtChange(d *sample.Dice, l []api.Entry) api.Change {
	names := append(sample.Names(6), "m0", "m1", "m2")
	name := func() string {
		if len(l) > 0 && d.Roll(3) > 0 {
			return l[d.Roll(len(l))].Name
		}
		return names[d.Roll(len(names))]
	}
	c := api.Change{Kind: api.CAdd + d.Roll(4), By: []string{"ann", "bob", "cy"}[d.Roll(3)]}
	switch c.Kind {
	case api.CAdd:
		others := append(dealt(d, 6), written("m0!:n0 m1 m2:m0")...)
		c.Entry = others[d.Roll(len(others))]
	case api.CSet:
		c.Entry = written("m1/cy:n1,m1")[0]
		if i := at(l, name()); i >= 0 {
			c.Entry = turned(d, l[i])
		}
	case api.CName:
		c.Name, c.New = name(), names[d.Roll(len(names))]
		if c.Name == c.New {
			c.New = "new"
		}
	case api.CDrop:
		c.Name = name()
	}
	return c
}

// after tells by the chapter's words what an edition is after a change.
func after(l []api.Entry, c api.Change) ([]api.Entry, api.Errno) {
	name := c.Name + c.Entry.Name
	i := at(l, name)
	if i < 0 && c.Kind != api.CAdd {
		return nil, api.ErrName
	}
	made := slices.Clone(l)
	switch c.Kind {
	case api.CAdd:
		if i >= 0 {
			return nil, api.ErrDuplicate
		}
		if len(l) == 60 {
			return nil, api.ErrLimit
		}
		made = append(made, c.Entry)
	case api.CSet:
		if sample.SameEntries(l[i:i+1], []api.Entry{c.Entry}) {
			return nil, api.ErrNone
		}
		made[i] = c.Entry
	case api.CName:
		if at(l, c.New) >= 0 || uses(l, c.New) {
			return nil, api.ErrDuplicate
		}
		made[i].Name = c.New
		for k, x := range made {
			made[k].Uses = slices.Clone(x.Uses)
			for place, used := range x.Uses {
				if used == name {
					made[k].Uses[place] = c.New
				}
			}
		}
	case api.CDrop:
		if uses(l, name) {
			return nil, api.ErrState
		}
		made = without(l, i)
	}
	slices.SortFunc(made, byName)
	return made, api.OK
}

// tries calls visit with random editions and changes, and with what the chapter's
// words make of them, and fails unless it tells often enough of a change of each
// kind that it ended so.
func tries(t *testing.T, visit func(l []api.Entry, c api.Change, made []api.Entry, e api.Errno) api.Errno, ends map[int][]api.Errno) {
	t.Helper()
	var d sample.Dice
	done := map[int]map[api.Errno]int{api.CAdd: {}, api.CSet: {}, api.CName: {}, api.CDrop: {}}
	for range 6000 {
		l := dealt(&d, 7)
		c := dealtChange(&d, l)
		made, e := after(l, c)
		done[c.Kind][visit(l, c, made, e)]++
	}
	for kind, list := range ends {
		for _, e := range list {
			if done[kind][e] < 50 {
				t.Errorf("%v", done)
			}
		}
	}
}

// story returns random changes that can be made one after the other, and all
// editions, from the empty one on.
func story(d *sample.Dice, count int) ([]api.Change, [][]api.Entry) {
	list, editions := []api.Change{}, [][]api.Entry{nil}
	for range 3 * count {
		l := editions[len(list)]
		c := dealtChange(d, l)
		if made, e := after(l, c); e == api.OK && len(list) < count {
			list, editions = append(list, c), append(editions, made)
		}
	}
	return list, editions
}

// axioms returns an edition of so many axioms, called a00, a01, and so on.
func axioms(count int) []api.Entry {
	l := []api.Entry{}
	for i := range count {
		l = append(l, api.Entry{Name: "a" + string([]byte{'0' + byte(i/10), '0' + byte(i%10)}), By: "ann", Says: api.Term{2}})
	}
	return l
}
