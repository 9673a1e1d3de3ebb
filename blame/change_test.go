package blame_test

import (
	"math"
	"slices"
	"strings"
	"testing"

	"lemmary/api"
	"lemmary/blame"
	"lemmary/sample"
)

// wrongChanges holds changes that are not valid, as they would be if one field
// were another one.
func wrongChanges() []api.Change {
	wrong := []api.Change{{}}
	fields := wrongFields()
	for i, right := range changes("add bob b:a; set bob b:a; name bob a b; drop bob a") {
		add := func(change func(c *api.Change)) {
			c := right
			change(&c)
			wrong = append(wrong, c)
		}
		for _, name := range sample.WrongNames() {
			add(func(c *api.Change) { c.By = name })
		}
		for _, kind := range []int{0, -1, 5, math.MinInt, math.MaxInt} {
			add(func(c *api.Change) { c.Kind = kind })
		}
		for kind := range 5 { // two kinds have the same fields
			if kind != right.Kind && kind+right.Kind != api.CAdd+api.CSet {
				add(func(c *api.Change) { c.Kind = kind })
			}
		}
		for _, with := range fields[i] {
			add(with)
		}
	}
	return wrong
}

// wrongFields has for each kind of changes what makes the fields wrong of which
// one has an entry, two names, or a single name.
func wrongFields() [][]func(c *api.Change) {
	entry := []func(c *api.Change){func(c *api.Change) { c.Name = c.Entry.Name }, func(c *api.Change) { c.New = "new" }, func(c *api.Change) { c.Name = "A" }}
	for _, x := range sample.WrongEntries() {
		entry = append(entry, func(c *api.Change) { c.Entry = x })
	}
	one := []func(c *api.Change){func(c *api.Change) { c.New = "new" }, func(c *api.Change) { c.New = c.Name }}
	two := []func(c *api.Change){func(c *api.Change) { c.New = c.Name }}
	for _, name := range sample.WrongNames() {
		one, two = append(one, func(c *api.Change) { c.Name = name }), append(two, func(c *api.Change) { c.Name = name }, func(c *api.Change) { c.New = name })
		if name != "" {
			one = append(one, func(c *api.Change) { c.New = name })
			entry = append(entry, func(c *api.Change) { c.Name = name }, func(c *api.Change) { c.New = name })
		}
	}
	for _, x := range []api.Entry{{Name: "a"}, {By: "bob"}, {Says: sample.K()}, {Uses: []string{"a"}}, {Uses: []string{""}}, {Proof: sample.Doubling(1)}, {Proof: []api.Step{{}}}, sample.Library()[2]} {
		one, two = append(one, func(c *api.Change) { c.Entry = x }), append(two, func(c *api.Change) { c.Entry = x })
	}
	return [][]func(c *api.Change){entry, entry, two, one}
}

// 9.1: changes of each kind, with names at their limits, and entries that may
// use themselves or what there is not.
func TestValid(t *testing.T) {
	s := sample.Sign()
	right := changes("add bob a; set bob a; add a a:a; set bob b:gone,b; name bob a b; name a a b; drop bob a; drop a a")
	for _, name := range sample.RightNames() {
		right = append(right, api.Change{Kind: api.CAdd, By: name, Entry: written("x")[0]}, api.Change{Kind: api.CDrop, By: "bob", Name: name})
		right = append(right, api.Change{Kind: api.CName, By: "bob", Name: name, New: "other"}, api.Change{Kind: api.CName, By: "bob", Name: "other", New: name})
	}
	empty := api.Entry{Says: api.Term{}, Uses: []string{}, Proof: []api.Step{}}
	right = append(right, api.Change{Kind: api.CDrop, By: "bob", Name: "a", Entry: empty}, api.Change{Kind: api.CName, By: "bob", Name: "a", New: "b", Entry: empty})
	for _, c := range right {
		if !blame.Valid(s, c) {
			t.Errorf("%v is not valid", c)
		}
		for _, wrong := range sample.WrongSigns() {
			if blame.Valid(wrong, c) {
				t.Errorf("%v is valid for %v", c, wrong)
			}
		}
	}
	for _, c := range wrongChanges() {
		if blame.Valid(s, c) {
			t.Errorf("%v is valid", c)
		}
	}
}

// makings tells what editions become by changes, or why they can't be made.
func makings() []struct {
	l, c, want string
	e          api.Errno
} {
	return []struct {
		l, c, want string
		e          api.Errno
	}{
		{"", "add bob a", "a", api.OK}, {"a c", "add bob b/cy:c,a", "a b/cy:c,a c", api.OK}, {"b:a", "add bob a", "a b:a", api.OK}, {"b", "add bob a!:a", "a!:a b", api.OK}, {"a b", "add bob c:gone", "a b c:gone", api.OK},
		{"a", "add bob a", "", api.ErrDuplicate}, {"a", "add bob a!/bob:a", "", api.ErrDuplicate}, {"a b:a", "add bob b:a", "", api.ErrDuplicate},
		{"a", "set bob a!", "a!", api.OK}, {"a b", "set bob a/bob", "a/bob b", api.OK}, {"a b c", "set cy b:c,a", "a b:c,a c", api.OK}, {"a:b,c", "set bob a:c,b", "a:c,b", api.OK}, {"a:a b:a", "set bob a", "a b:a", api.OK}, {"a", "set bob a:a", "a:a", api.OK},
		{"", "set bob a", "", api.ErrName}, {"b:a", "set bob a", "", api.ErrName}, {"a", "set bob a", "", api.ErrNone}, {"a b!/bob:a,c", "set cy b!/bob:a,c", "", api.ErrNone},
		{"a", "name bob a b", "b", api.OK}, {"a b:c,a,d c:b d:a", "name bob a z", "b:c,z,d c:b d:z z", api.OK}, {"a:b,a b/cy", "name bob a b1", "b/cy b1:b,b1", api.OK}, {"b! c", "name bob b d", "c d!", api.OK}, {"b c:b d:gone", "name bob b a", "a c:a d:gone", api.OK},
		{"", "name bob a b", "", api.ErrName}, {"b:a", "name bob a c", "", api.ErrName}, {"b", "name bob a b", "", api.ErrName}, {"c:b", "name bob a b", "", api.ErrName},
		{"a b", "name bob a b", "", api.ErrDuplicate}, {"a c:b", "name bob a b", "", api.ErrDuplicate}, {"a:b", "name bob a b", "", api.ErrDuplicate}, {"a b:b", "name bob a b", "", api.ErrDuplicate}, {"a c:d,a,b", "name bob a b", "", api.ErrDuplicate},
		{"a", "drop bob a", "", api.OK}, {"a:a", "drop bob a", "", api.OK}, {"a b:a", "drop bob b", "a", api.OK}, {"a b c", "drop bob b", "a c", api.OK}, {"a:b", "drop bob a", "", api.OK},
		{"", "drop bob a", "", api.ErrName}, {"b:a", "drop bob a", "", api.ErrName}, {"a b:a", "drop bob a", "", api.ErrState}, {"a:a b:c,a", "drop bob a", "", api.ErrState}, {"a:b b:a", "drop bob b", "", api.ErrState},
	}
}

// 9.1
func TestMade(t *testing.T) {
	for _, making := range makings() {
		l, e := blame.Made(sample.Sign(), written(making.l), change(making.c))
		checkEdition(t, "Made in "+making.l+": "+making.c, l, e, making.want, making.e)
	}
}

// 9.1: ErrLimit of a 61st entry, behind ErrDuplicate; no other change needs room.
func TestMadeLimit(t *testing.T) {
	s := sample.Sign()
	full := axioms(60)
	tests := []struct {
		l    []api.Entry
		c    string
		size int
		e    api.Errno
	}{
		{full[:59], "add bob b", 60, api.OK}, {full, "add bob b", 0, api.ErrLimit}, {full, "add bob a59", 0, api.ErrDuplicate}, {full, "add bob a00", 0, api.ErrDuplicate}, {full, "set bob a00", 60, api.OK},
		{full, "set bob b", 0, api.ErrName}, {full, "name bob a00 b", 60, api.OK}, {full, "name bob a00 a01", 0, api.ErrDuplicate}, {full, "drop bob a30", 59, api.OK}, {axioms(61), "add bob b", 0, api.ErrInvalid},
	}
	for _, test := range tests {
		if l, e := blame.Made(s, test.l, change(test.c)); e != test.e || len(l) != test.size || !blame.Edition(s, l) {
			t.Errorf("%s in %d entries: %d, %d", test.c, len(test.l), len(l), e)
		}
	}
}

// 9.1: by random editions and changes, against the chapter's words.
func TestMadeRandom(t *testing.T) {
	s := sample.Sign()
	tries(t, func(l []api.Entry, c api.Change, want []api.Entry, wrong api.Errno) api.Errno {
		got, e := blame.Made(s, l, c)
		if e != wrong || !sample.SameEntries(got, want) || e == api.OK && !blame.Edition(s, got) {
			t.Errorf("Made(%v, %v) = %v, %d; want %v, %d", l, c, got, e, want, wrong)
		}
		return e
	}, map[int][]api.Errno{
		api.CAdd: {api.OK, api.ErrDuplicate}, api.CSet: {api.OK, api.ErrName, api.ErrNone}, api.CName: {api.OK, api.ErrName, api.ErrDuplicate}, api.CDrop: {api.OK, api.ErrName, api.ErrState},
	})
}

// 9.1: the first change that can't be made decides; then there is no edition.
func TestPlayed(t *testing.T) {
	tests := []struct {
		l, c, want string
		i          int
		e          api.Errno
	}{
		{"", "", "", -1, api.OK}, {"a b:a", "", "a b:a", -1, api.OK}, {"a", "add bob b:a", "a b:a", -1, api.OK}, {"", "add ann i; name ann i id; set bob id!/bob", "id!/bob", -1, api.OK},
		{"k", "add ann i; name ann i id; set bob id!/bob:k; drop cy id; drop cy k", "", -1, api.OK}, {"", "add ann a; drop ann a; add bob a!", "a!", -1, api.OK}, {"", "add ann a; name ann a b; add ann a; name ann b c", "a c", -1, api.OK},
		{"a", "add bob a", "", 0, api.ErrDuplicate}, {"a", "add bob b; drop bob a; drop bob a; add bob b", "", 2, api.ErrName}, {"", "add ann a; set ann a; add ann a", "", 1, api.ErrNone}, {"", "add ann a; add ann b:a; drop ann a", "", 2, api.ErrState},
		{"", "add ann a; set ann a!; set ann a; add ann a", "", 3, api.ErrDuplicate}, {"b", "add ann a; name ann a b; drop ann c", "", 1, api.ErrDuplicate},
	}
	for _, test := range tests {
		l, i, e := blame.Played(sample.Sign(), written(test.l), changes(test.c))
		checkEdition(t, "Played in "+test.l+": "+test.c, l, e, test.want, test.e)
		if i != test.i {
			t.Errorf("%s: the index %d, not %d", test.c, i, test.i)
		}
	}
	l, i, e := blame.Played(sample.Sign(), axioms(59), changes("add ann x; drop ann a00; add ann y; add ann z; drop ann a01"))
	if len(l) != 0 || i != 3 || e != api.ErrLimit {
		t.Errorf("Played = %d entries, %d, %d", len(l), i, e)
	}
}

// back is two changes that can be made again and again in an edition with a.
const back = "set ann a!; set ann a;"

// 9.1, 9.3: up to 200 changes can be made, and ErrRange of more comes behind
// ErrInvalid of any of them, and ahead of what can't be made.
func TestPlayedLimit(t *testing.T) {
	s := sample.Sign()
	full := changes("add ann a; set ann a/bob; " + strings.Repeat(back, 99))
	l, i, e := blame.Played(s, nil, full)
	checkEdition(t, "Played", l, e, "a", api.OK)
	if len(full) != api.MaxChanges || i != -1 {
		t.Errorf("%d changes: %d", len(full), i)
	}
	for n, want := range map[int]string{0: "", 1: "a", 2: "a/bob", 199: "a!", 200: "a"} {
		l, e := blame.At(s, full, n)
		checkEdition(t, "At", l, e, want, api.OK)
	}
	for _, more := range []string{"set ann a!", "set ann a", "drop ann b", "add ann a"} {
		for _, many := range [][]api.Change{append(slices.Clone(full), change(more)), append(changes(more), full...), slices.Repeat(changes(more), 5000)} {
			if l, i, e := blame.Played(s, nil, many); len(l) != 0 || i != 0 || e != api.ErrRange {
				t.Errorf("%d changes with %s: %v, %d, %d", len(many), more, l, i, e)
			}
			for _, n := range []int{0, 1, 200, 201, -1} {
				if l, e := blame.At(s, many, n); len(l) != 0 || e != api.ErrRange {
					t.Errorf("At %d of %d changes: %v, %d", n, len(many), l, e)
				}
			}
			many[len(many)-1].By = "Ann"
			if l, i, e := blame.Played(s, nil, many); len(l) != 0 || i != 0 || e != api.ErrInvalid {
				t.Errorf("%d changes with %s: %v, %d, %d", len(many), more, l, i, e)
			}
		}
	}
}

// 9.1: a change that is not valid, wherever it is, is ErrInvalid with the index
// 0, also behind one that can't be made.
func TestPlayedInvalid(t *testing.T) {
	s := sample.Sign()
	for _, wrong := range wrongChanges() {
		for _, before := range []string{"", "add bob c", "drop bob gone", "add bob c; drop bob gone"} {
			for _, behind := range []string{"", "add bob d"} {
				list := slices.Concat(changes(before), []api.Change{wrong}, changes(behind))
				if l, i, e := blame.Played(s, written("a"), list); len(l) != 0 || i != 0 || e != api.ErrInvalid {
					t.Errorf("Played(%v) = %v, %d, %d", list, l, i, e)
				}
				if l, e := blame.At(s, list, 0); len(l) != 0 || e != api.ErrInvalid {
					t.Errorf("At(%v) = %v, %d", list, l, e)
				}
			}
		}
	}
}

// 9.3, P9.5: by random changes: each edition is what those before make, and
// changes may be made in two parts.
func TestPlayedRandom(t *testing.T) {
	var d sample.Dice
	s := sample.Sign()
	for range 400 {
		list, editions := story(&d, 1+d.Roll(25))
		for n, want := range editions {
			if l, e := blame.At(s, list, n); e != api.OK || !sample.SameEntries(l, want) {
				t.Errorf("At(%v, %d) = %v, %d; want %v", list, n, l, e, want)
			}
			first, i, e := blame.Played(s, nil, list[:n])
			both, k, f := blame.Played(s, first, list[n:])
			if i != -1 || k != -1 || e != api.OK || f != api.OK || !sample.SameEntries(both, editions[len(list)]) {
				t.Errorf("Played(%v, %v) = %v, %d, %d", first, list[n:], both, k, f)
			}
		}
		for _, n := range []int{-1, len(list) + 1, math.MinInt, math.MaxInt} {
			if l, e := blame.At(s, list, n); len(l) != 0 || e != api.ErrRange {
				t.Errorf("At(%v, %d) = %v, %d", list, n, l, e)
			}
		}
		n := d.Roll(len(editions))
		bad := dealtChange(&d, editions[n])
		if _, wrong := after(editions[n], bad); wrong != api.OK {
			broken := slices.Insert(slices.Clone(list), n, bad)
			if l, i, e := blame.Played(s, nil, broken); len(l) != 0 || i != n || e != wrong {
				t.Errorf("Played(%v) = %v, %d, %d; want %d, %d", broken, l, i, e, n, wrong)
			}
			if l, e := blame.At(s, broken, n); e != api.OK || !sample.SameEntries(l, editions[n]) {
				t.Errorf("At(%v, %d) = %v, %d", broken, n, l, e)
			}
			if l, e := blame.At(s, broken, n+1); e != wrong || len(l) != 0 {
				t.Errorf("At(%v, %d) = %v, %d", broken, n+1, l, e)
			}
			if l, e := blame.At(s, broken, len(broken)+1); e != api.ErrRange || len(l) != 0 {
				t.Errorf("At(%v) = %v, %d", broken, l, e)
			}
		}
	}
}
