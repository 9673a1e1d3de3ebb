package deps_test

import (
	"slices"
	"testing"

	"lemmary/api"
	"lemmary/deps"
	"lemmary/sample"
)

// 6.1: circles with names that tell which one is the least.
func TestCircle(t *testing.T) {
	s := sample.Sign()
	tests := []struct {
		l    []api.Entry
		want []string
	}{
		{graph([]string{"a", "a"}), []string{"a"}},
		{graph([]string{"a", "b"}, []string{"b", "a"}), []string{"a", "b"}},
		{graph([]string{"b", "a"}, []string{"a", "b"}), []string{"a", "b"}},
		{graph([]string{"c", "a"}, []string{"a", "b"}, []string{"b", "c"}), []string{"a", "b", "c"}},
		{graph([]string{"a", "c"}, []string{"c", "b"}, []string{"b", "a"}), []string{"a", "c", "b"}},
		// the beginning comes before the longer one
		{graph([]string{"a", "b", "a"}, []string{"b", "a"}), []string{"a"}},
		{graph([]string{"a", "c", "b"}, []string{"b", "c", "a"}, []string{"c", "a"}), []string{"a", "b"}},
		{graph([]string{"a", "c"}, []string{"b", "a"}, []string{"c", "b", "a"}), []string{"a", "c"}},
		// the longer one that is less comes before the shorter one
		{graph([]string{"a", "c", "b"}, []string{"b", "c"}, []string{"c", "a"}), []string{"a", "b", "c"}},
		// what begins with the least name
		{graph([]string{"a", "c"}, []string{"b", "b"}, []string{"c", "c"}), []string{"b"}},
		{graph([]string{"d", "d"}, []string{"b", "c"}, []string{"c", "b"}, []string{"a", "b", "d"}), []string{"b", "c"}},
		// b is on no way back to a, and c is there only through a
		{graph([]string{"a", "b", "d"}, []string{"b", "c"}, []string{"c", "b"}, []string{"d", "a"}), []string{"a", "d"}},
		{graph([]string{"a", "b"}, []string{"b", "c", "d"}, []string{"c", "b"}, []string{"d", "a"}), []string{"a", "b", "d"}},
		// names are compared as strings
		{graph([]string{"n10", "n2"}, []string{"n2", "n10"}), []string{"n10", "n2"}},
		{graph([]string{"a", "b_", "b"}, []string{"b", "a"}, []string{"b_", "a"}), []string{"a", "b"}},
		{graph([]string{"a", "gone", "b"}, []string{"b", "a", "gone"}), []string{"a", "b"}},
	}
	for _, test := range tests {
		if names, e := deps.Circle(s, test.l); e != api.OK || !slices.Equal(names, test.want) {
			t.Errorf("Circle of %v = %v, %d; want %v", test.l, names, e, test.want)
		}
	}
	for _, l := range [][]api.Entry{nil, sample.Library(), graph([]string{"a", "b", "c"}, []string{"b", "c"}, []string{"c"}), graph([]string{"a", "gone"})} {
		if names, e := deps.Circle(s, l); e != api.ErrNone || len(names) != 0 {
			t.Errorf("Circle of %v = %v, %d", l, names, e)
		}
	}
}

// circles returns all circles of a library that begin with their least names,
// ascending: every way that never comes to a name twice is gone.
func circles(l []api.Entry) [][]string {
	all := [][]string{}
	var walk func(way []string)
	walk = func(way []string) {
		i := at(l, way[len(way)-1])
		if i < 0 {
			return
		}
		for _, next := range l[i].Uses {
			if next == way[0] {
				all = append(all, way)
			} else if next > way[0] && !slices.Contains(way, next) {
				walk(append(slices.Clone(way), next))
			}
		}
	}
	for _, name := range namesOf(l) {
		walk([]string{name})
	}
	slices.SortFunc(all, slices.Compare)
	return all
}

// 6.1, P6.2: the least of all circles that there are.
func TestLeastCircle(t *testing.T) {
	s := sample.Sign()
	check := func(l []api.Entry) {
		names, e := deps.Circle(s, l)
		all := circles(l)
		if len(all) == 0 && (e != api.ErrNone || len(names) != 0) || len(all) > 0 && (e != api.OK || !slices.Equal(names, all[0])) {
			t.Errorf("Circle of %v = %v, %d; all: %v", l, names, e, all)
		}
		if e == api.OK && !deps.IsCircle(s, l, names) {
			t.Errorf("%v is no circle of %v", names, l)
		}
		for _, circle := range all {
			if !deps.IsCircle(s, l, circle) {
				t.Errorf("%v is no circle of %v", circle, l)
			}
		}
	}
	graphs(3000, 9, check)
	libraries(1000, 12, check)
}

// P6.1: libraries in which there are far too many ways to go them all.
func TestCircleOfMany(t *testing.T) {
	s := sample.Sign()
	names := sample.Names(60)
	slices.Sort(names)
	entries := [][]string{}
	for i, name := range names {
		entries = append(entries, append([]string{name}, names[i+1:min(60, i+13)]...))
	}
	l := graph(entries...)
	if circle, e := deps.Circle(s, l); e != api.ErrNone || len(circle) != 0 {
		t.Errorf("Circle = %v, %d", circle, e)
	}
	closed := with(l, 59, func(x *api.Entry) { x.Uses, x.Proof = names[:1], []api.Step{sample.Cite(0)} })
	if circle, e := deps.Circle(s, closed); e != api.OK || !slices.Equal(circle, names) {
		t.Errorf("Circle = %v, %d", circle, e)
	}
	closed[59].Uses = names[47:48]
	if circle, e := deps.Circle(s, closed); e != api.OK || !slices.Equal(circle, names[47:]) {
		t.Errorf("Circle = %v, %d", circle, e)
	}
	if !deps.IsCircle(s, closed, names[47:]) || deps.IsCircle(s, closed, names) {
		t.Error("IsCircle")
	}
}

// 6.1: of all short lists of names just the circles are some.
func TestIsCircle(t *testing.T) {
	s := sample.Sign()
	graphs(300, 4, func(l []api.Entry) {
		all := circles(l)
		choice := append(namesOf(l), "gone")
		var check func(names []string)
		check = func(names []string) {
			want := slices.ContainsFunc(all, func(circle []string) bool { return slices.Equal(circle, names) })
			if deps.IsCircle(s, l, names) != want {
				t.Errorf("IsCircle(%v) of %v is not %t", names, l, want)
			}
			if len(names) == 4 {
				return
			}
			for _, name := range choice {
				check(append(slices.Clone(names), name))
			}
		}
		check(nil)
	})
	l := graph([]string{"a", "b", "a", "gone"}, []string{"b", "c", "b", "gone"}, []string{"c", "a", "b"})
	for _, names := range [][]string{nil, {}, {"b", "c", "a"}, {"a", "c", "b"}, {"a", "a"}, {"a", "b", "c", "a", "b", "c"}, {"gone"}, {"a", "gone"}, {"a", "b", "b", "c"}, {"c", "b"}, {"a", "b"}, {""}, slices.Repeat([]string{"a"}, 100000)} {
		if deps.IsCircle(s, l, names) {
			t.Errorf("%v is a circle", names)
		}
	}
	for _, names := range [][]string{{"a"}, {"b"}, {"b", "c"}, {"a", "b", "c"}} {
		if !deps.IsCircle(s, l, names) || deps.IsCircle(s, append(l, l[0]), names) || deps.IsCircle(nil, l, names) {
			t.Errorf("IsCircle(%v)", names)
		}
	}
}
