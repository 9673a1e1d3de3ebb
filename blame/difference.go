package blame

import (
	"slices"

	"lemmary/api"
	"lemmary/deps"
)

// Difference returns changes by somebody that make the edition b of the edition
// a.
func Difference(s api.Sign, a, b []api.Entry, by string) ([]api.Change, api.Errno) {
	if !Edition(s, a) || !Edition(s, b) || !deps.Name(by) {
		return nil, api.ErrInvalid
	}
	changes := []api.Change{}
	now, then := opened(a), opened(b)
	made := func(c api.Change) bool {
		if now.change(c) != api.OK {
			return false
		}
		c.Entry = copied(c.Entry)
		changes = append(changes, c)
		return true
	}
	// What can be set is just what both have and what differs.
	for _, x := range b {
		made(api.Change{Kind: api.CSet, By: by, Entry: x})
	}
	gone := []string{}
	for _, x := range slices.Backward(a) {
		if !then.has(x.Name) {
			gone = append(gone, x.Name)
		}
	}
	for len(gone) > 0 {
		dropped := slices.IndexFunc(gone, func(name string) bool {
			return made(api.Change{Kind: api.CDrop, By: by, Name: name})
		})
		if dropped < 0 {
			return nil, api.ErrState
		}
		gone = slices.Delete(gone, dropped, dropped+1)
	}
	// What can be added is just what is not there.
	for _, x := range b {
		made(api.Change{Kind: api.CAdd, By: by, Entry: x})
	}
	return changes, api.OK
}
