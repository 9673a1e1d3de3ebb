package blame

import (
	"maps"
	"slices"

	"lemmary/api"
)

// Conflicts returns the names that are in conflict between two editions with a
// common base.
func Conflicts(s api.Sign, base, a, b []api.Entry) ([]string, api.Errno) {
	_, conflicts, e := merge(s, base, a, b)
	return conflicts, e
}

// Merged returns the merge of two editions with a common base.
func Merged(s api.Sign, base, a, b []api.Entry) ([]api.Entry, api.Errno) {
	merged, conflicts, e := merge(s, base, a, b)
	if e != api.OK {
		return nil, e
	}
	if len(conflicts) > 0 {
		return nil, api.ErrState
	}
	if len(merged) > api.MaxEntries {
		return nil, api.ErrLimit
	}
	return merged.list(), api.OK
}

// merge returns the merge of two editions, as far as names are not in conflict,
// and the names that are, ascending.
func merge(s api.Sign, base, a, b []api.Entry) (edition, []string, api.Errno) {
	if !Edition(s, base) || !Edition(s, a) || !Edition(s, b) {
		return nil, nil, api.ErrInvalid
	}
	was, one, other := opened(base), opened(a), opened(b)
	all := maps.Clone(was)
	maps.Copy(all, one)
	maps.Copy(all, other)
	merged, conflicts := edition{}, []string{}
	for _, name := range slices.Sorted(maps.Keys(all)) {
		switch {
		case Same(one[name], other[name]), Same(other[name], was[name]):
			merged.put(name, one[name])
		case Same(one[name], was[name]):
			merged.put(name, other[name])
		default:
			conflicts = append(conflicts, name)
		}
	}
	return merged, conflicts, api.OK
}

// put puts in an entry that an edition has for a name, if it is there.
func (l edition) put(name string, x api.Entry) {
	if x.Name == name {
		l[name] = x
	}
}
