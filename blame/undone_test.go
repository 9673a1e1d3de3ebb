package blame_test

import (
	"slices"
	"testing"

	"lemmary/api"
	"lemmary/blame"
	"lemmary/sample"
)

// 9.1: the change that undoes another one is by the same person, and an old
// entry keeps its own By.
func TestUndone(t *testing.T) {
	tests := []struct {
		l, c, want string
		e          api.Errno
	}{
		{"", "add bob a", "drop bob a", api.OK}, {"b", "add bob a!/cy:a,b", "drop bob a", api.OK}, {"a:b", "add bob c", "drop bob c", api.OK},
		{"b:a", "add bob a", "", api.ErrState}, {"b:a", "add bob a:a", "", api.ErrState}, {"b:b c:b,a", "add bob a/cy", "", api.ErrState},
		{"a!/cy b:a", "set bob a", "set bob a!/cy", api.OK}, {"a:b,a", "set bob a/bob", "set bob a:b,a", api.OK}, {"a b", "set bob b:a", "set bob b", api.OK},
		{"a", "name bob a b", "name bob b a", api.OK}, {"a:a b:c,a", "name cy a d", "name cy d a", api.OK},
		{"a", "drop bob a", "add bob a", api.OK}, {"a b!/cy:gone,a", "drop bob b", "add bob b!/cy:gone,a", api.OK}, {"a:a", "drop bob a", "add bob a:a", api.OK},
	}
	for _, test := range tests {
		c, e := blame.Undone(sample.Sign(), written(test.l), change(test.c))
		if want := append(changes(test.want), api.Change{})[0]; e != test.e || !sameChanges([]api.Change{c}, []api.Change{want}) {
			t.Errorf("Undone in %s: %s = %v, %d; want %q, %d", test.l, test.c, c, e, test.want, test.e)
		}
	}
}

// 9.1: the errors of Made, ahead of ErrState.
func TestUndoneErrors(t *testing.T) {
	s := sample.Sign()
	for _, making := range makings() {
		c, e := blame.Undone(s, written(making.l), change(making.c))
		if making.e != api.OK && (e != making.e || !sameChanges([]api.Change{c}, []api.Change{{}})) {
			t.Errorf("Undone in %s: %s = %v, %d", making.l, making.c, c, e)
		}
	}
	used := axioms(60)
	used[0] = written("a00:x")[0]
	for l, wrong := range map[int]api.Errno{59: api.ErrState, 60: api.ErrLimit} {
		if c, e := blame.Undone(s, used[:l], change("add bob x")); e != wrong || c.Kind != 0 {
			t.Errorf("Undone in %d entries = %v, %d", l, c, e)
		}
	}
}

// P9.2: what undoes a change leads back.
func TestUndoneRandom(t *testing.T) {
	s := sample.Sign()
	tries(t, func(l []api.Entry, c api.Change, made []api.Entry, wrong api.Errno) api.Errno {
		if wrong == api.OK && c.Kind == api.CAdd && uses(l, c.Entry.Name) {
			wrong = api.ErrState
		}
		undone, e := blame.Undone(s, l, c)
		if e != wrong {
			t.Errorf("Undone(%v, %v) = %v, %d; want %d", l, c, undone, e, wrong)
		}
		if wrong != api.OK {
			return e
		}
		if back, f := blame.Made(s, made, undone); f != api.OK || !sample.SameEntries(back, l) || undone.By != c.By {
			t.Errorf("%v undone by %v is %v, %d; it was %v", c, undone, back, f, l)
		}
		return e
	}, map[int][]api.Errno{api.CAdd: {api.OK, api.ErrState}, api.CSet: {api.OK}, api.CName: {api.OK}, api.CDrop: {api.OK}})
}

// 9.4: both orders, and what comes of each.
func TestApart(t *testing.T) {
	tests := []struct {
		l, c, d string
		want    bool
	}{
		{"", "add bob a", "add bob b", true}, {"", "add bob a", "add bob b:a", true}, {"", "add bob a", "add bob a", false}, {"", "add bob a", "add bob a!", false}, {"", "add bob a", "drop bob a", false},
		{"a", "set bob a!", "set bob a/bob", false}, {"a", "set bob a!", "set bob a!", false}, {"a b", "set bob a!", "set bob b!", true}, {"a", "set bob a!", "add bob b:a", true},
		{"a b", "drop bob a", "drop bob b", true}, {"a b:a", "drop bob a", "drop bob b", false}, {"a b", "drop bob a", "set bob b!", true}, {"a", "drop bob a", "add bob b:a", false}, {"a b", "drop bob a", "set bob b:a", false}, {"a b:a", "drop bob a", "set bob b", false},
		{"a", "drop bob a", "drop cy a", false}, {"a", "drop bob a", "set bob a!", false}, {"a", "set bob a/bob", "drop cy a", false}, {"a", "name bob a b", "drop bob a", false},
		{"a b", "name bob a c", "name bob b d", true}, {"a b:a", "name bob a c", "name bob b d", true}, {"a b", "name bob a c", "name bob b c", false}, {"a b", "name bob a c", "name bob b a", false}, {"a", "name bob a b", "name bob b a", false}, {"a", "name bob a b", "name cy a b", false},
		{"a b", "name bob a c", "set bob b:a", false}, {"a b:a", "name bob a c", "set bob b!", true}, {"a b:a", "name bob a c", "set bob b!:a", false}, {"a", "name bob a b", "set bob a!", false}, {"a", "name bob a b", "add bob a", false}, {"a", "name bob a b", "add bob c:b", false}, {"a", "name bob a b", "add bob c", true},
		{"", "add bob a", "drop bob b", false}, {"", "drop bob a", "drop bob b", false}, {"a", "set bob a", "add bob b", false},
	}
	for _, test := range tests {
		for _, pair := range [][2]api.Change{{change(test.c), change(test.d)}, {change(test.d), change(test.c)}} {
			if is, e := blame.Apart(sample.Sign(), written(test.l), pair[0], pair[1]); e != api.OK || is != test.want {
				t.Errorf("Apart(%s, %v) = %t, %d", test.l, pair, is, e)
			}
		}
	}
}

// 9.4: a full edition has no room for one more, in one of the orders.
func TestApartLimit(t *testing.T) {
	full := axioms(60)
	tests := []struct {
		l    []api.Entry
		c, d string
		want bool
	}{
		{full[:58], "add bob x", "add bob y", true}, {full[:59], "add bob x", "add bob y", false}, {full, "drop bob a00", "add bob x", false}, {full[:59], "drop bob a00", "add bob x", true},
		{full, "drop bob a00", "drop bob a59", true}, {full[:59], "add bob x", "set bob a00!", true}, {full, "set bob a00", "name bob a01 x", true},
	}
	for _, test := range tests {
		for _, pair := range [][2]string{{test.c, test.d}, {test.d, test.c}} {
			if is, e := blame.Apart(sample.Sign(), test.l, change(pair[0]), change(pair[1])); e != api.OK || is != test.want {
				t.Errorf("Apart in %d entries: %v = %t, %d", len(test.l), pair, is, e)
			}
		}
	}
}

// named returns all names that a change names.
func named(c api.Change) []string {
	return append(slices.Clone(c.Entry.Uses), c.Entry.Name+c.Name, c.New)
}

// 9.4, P9.6: by random editions and changes, against the chapter's words.
func TestApartRandom(t *testing.T) {
	var d sample.Dice
	s := sample.Sign()
	done := map[string]int{}
	for range 8000 {
		l := dealt(&d, 8)
		a, b := dealtChange(&d, l), dealtChange(&d, l)
		one, e := after(l, a)
		other, f := after(l, b)
		both := e == api.OK && f == api.OK
		want := false
		if both {
			one, e = after(one, b)
			other, f = after(other, a)
			want = e == api.OK && f == api.OK && sample.SameEntries(one, other)
		}
		is, g := blame.Apart(s, l, a, b)
		if g != api.OK || is != want {
			t.Errorf("Apart(%v, %v, %v) = %t, %d", l, a, b, is, g)
		}
		strange := !slices.ContainsFunc(named(a), func(name string) bool { return name != "" && slices.Contains(named(b), name) })
		if both && strange && !is {
			t.Errorf("%v and %v name each other nowhere, and are not apart in %v", a, b, l)
		}
		switch {
		case both && strange:
			done["strange"]++
		case is:
			done["apart"]++
		case both:
			done["not apart"]++
		}
	}
	if done["strange"] < 300 || done["apart"] < 100 || done["not apart"] < 100 {
		t.Errorf("%v", done)
	}
}
