package deps_test

import (
	"slices"

	"lemmary/api"
	"lemmary/kernel"
	"lemmary/sample"
)

// says is what random libraries are made with.
func says(g []api.Term, p []api.Step) (api.Term, api.Errno) {
	return kernel.Says(sample.Sign(), g, p)
}

// sound calls visit with random libraries that are sound.
func sound(count, most int, visit func(l []api.Entry)) {
	var d sample.Dice
	for range count {
		visit(d.Sound(1+d.Roll(most), says))
	}
}

// libraries calls visit with random libraries of all kinds.
func libraries(count, most int, visit func(l []api.Entry)) {
	var d sample.Dice
	visit(nil)
	for range count {
		if d.Roll(4) == 0 {
			visit(d.Sound(1+d.Roll(most), says))
		} else {
			visit(d.Library(1+d.Roll(most), says))
		}
	}
}

// graph returns a library in which each entry, by its name, cites others.
func graph(entries ...[]string) []api.Entry {
	l := []api.Entry{}
	for _, names := range entries {
		x := api.Entry{Name: names[0], By: "ann", Says: sample.K(), Uses: names[1:]}
		if len(x.Uses) > 0 {
			x.Proof = []api.Step{sample.Cite(0)}
		}
		l = append(l, x)
	}
	return l
}

// graphs calls visit with random graphs of up to so many entries.
func graphs(count, most int, visit func(l []api.Entry)) {
	var d sample.Dice
	for range count {
		names := sample.Names(1 + d.Roll(most))
		entries := [][]string{}
		for i := range names {
			entry := []string{names[i]}
			for range d.Roll(4) {
				other := names[d.Roll(len(names))]
				if !slices.Contains(entry[1:], other) {
					entry = append(entry, other)
				}
			}
			entries = append(entries, entry)
		}
		visit(graph(entries...))
	}
}

func namesOf(l []api.Entry) []string {
	names := []string{}
	for _, x := range l {
		names = append(names, x.Name)
	}
	return names
}

// at returns the index of the entry with a name, or -1.
func at(l []api.Entry, name string) int {
	return slices.Index(namesOf(l), name)
}

// picked returns the names of the entries for which a report is true, ascending.
func picked(l []api.Entry, is func(x api.Entry) bool) []string {
	names := []string{}
	for _, x := range l {
		if is(x) {
			names = append(names, x.Name)
		}
	}
	slices.Sort(names)
	return names
}

// leans tells, for all pairs of names, whether the first one leans on the second
// one: steps from one to the next are put together until nothing is new.
func leans(l []api.Entry) map[[2]string]bool {
	on := map[[2]string]bool{}
	for _, x := range l {
		for _, name := range x.Uses {
			on[[2]string{x.Name, name}] = true
		}
	}
	for between := 0; between < len(on); {
		between = len(on)
		pairs := [][2]string{}
		for pair := range on {
			pairs = append(pairs, pair)
		}
		for _, a := range pairs {
			for _, b := range pairs {
				if a[1] == b[0] {
					on[[2]string{a[0], b[1]}] = true
				}
			}
		}
	}
	return on
}

// holds tells in another way whether an entry holds: its proof is checked.
func holds(l []api.Entry, x api.Entry) bool {
	if len(x.Proof) == 0 {
		return true
	}
	g := []api.Term{}
	for _, name := range x.Uses {
		i := at(l, name)
		if i < 0 {
			return false
		}
		g = append(g, l[i].Says)
	}
	return kernel.Proves(sample.Sign(), g, x.Proof, x.Says)
}

// isShaken tells by the chapter's words whether an entry is shaken.
func isShaken(l []api.Entry, x api.Entry) bool {
	if !holds(l, x) {
		return false
	}
	for pair := range leans(l) {
		if pair[0] != x.Name {
			continue
		}
		if i := at(l, pair[1]); i < 0 || !holds(l, l[i]) {
			return true
		}
	}
	return false
}

// with returns a library with another entry in the place of one.
func with(l []api.Entry, i int, change func(x *api.Entry)) []api.Entry {
	other := slices.Clone(l)
	change(&other[i])
	return other
}

// without returns a library without one of its entries.
func without(l []api.Entry, i int) []api.Entry {
	return slices.Delete(slices.Clone(l), i, i+1)
}
