package deps

import (
	"iter"
	"slices"

	"lemmary/api"
)

// Whole reports whether a library is whole: then there is an order.
func Whole(s api.Sign, l []api.Entry) (bool, api.Errno) {
	_, e := Order(s, l)
	if e == api.ErrInvalid {
		return false, e
	}
	return e == api.OK, api.OK
}

// Order returns the indexes of all entries of a library so that each comes
// after all that it cites, each time the least one that can come.
func Order(s api.Sign, l []api.Entry) ([]int, api.Errno) {
	known, e := opened(s, l)
	if e != api.OK {
		return nil, e
	}
	return known.order()
}

// order returns the order of a library: ErrName if a name is missing, ErrCircle
// if an entry leans on itself.
func (l *library) order() ([]int, api.Errno) {
	if len(l.missing()) > 0 {
		return nil, api.ErrName
	}
	order := []int{}
	for i := range l.ordered() {
		order = append(order, i)
	}
	if len(order) < len(l.entries) {
		return nil, api.ErrCircle
	}
	return order, api.OK
}

// ordered gives the indexes of entries in their order. Those that lean on a
// circle or a missing name never come.
func (l *library) ordered() iter.Seq[int] {
	return func(yield func(int) bool) {
		came := map[string]bool{}
		canCome := func(x api.Entry) bool {
			waits := func(name string) bool { return !came[name] }
			return !came[x.Name] && !slices.ContainsFunc(x.Uses, waits)
		}
		for {
			i := slices.IndexFunc(l.entries, canCome)
			if i < 0 || !yield(i) {
				return
			}
			came[l.entries[i].Name] = true
		}
	}
}

// Layers returns for each entry of a library 0 if it cites nothing, otherwise
// one more than the greatest number of those that it cites.
func Layers(s api.Sign, l []api.Entry) ([]int, api.Errno) {
	known, e := opened(s, l)
	if e != api.OK {
		return nil, e
	}
	order, e := known.order()
	if e != api.OK {
		return nil, e
	}
	layers := make([]int, len(l))
	for _, i := range order {
		for _, name := range l[i].Uses {
			layers[i] = max(layers[i], layers[known.index[name]]+1)
		}
	}
	return layers, api.OK
}
