package tongue_test

import (
	"slices"
	"testing"

	"lemmary/api"
	"lemmary/sample"
	"lemmary/term"
	"lemmary/tongue"
)

// atoms has for each symbol the term of it with a variable for each argument.
func atoms(s api.Sign) []api.Term {
	l := []api.Term{}
	for i, symbol := range s {
		l = append(l, append(api.Term{i}, []int{-1, -2, -3}[:symbol.Arity]...))
	}
	return l
}

// two is the sign C/2 K/2, and flip its dictionary to itself that exchanges K's
// arguments.
func two() api.Sign {
	return api.Sign{{Name: "C", Arity: 2}, {Name: "K", Arity: 2}}
}

func flip() []api.Way {
	return []api.Way{{To: 0, Args: []int{0, 1}}, {To: 1, Args: []int{1, 0}}}
}

// 3.2
func TestValid(t *testing.T) {
	if !tongue.Valid(sample.Sign(), sample.Sign(), sample.RightWays()) || !tongue.Valid(two(), two(), flip()) {
		t.Error("right dictionaries are not valid")
	}
	for _, d := range sample.WrongWays() {
		if tongue.Valid(sample.Sign(), sample.Sign(), d) {
			t.Errorf("%v is valid", d)
		}
	}
	journeys(100, func(a, b api.Sign, d []api.Way) {
		if !tongue.Valid(a, b, d) {
			t.Errorf("%v is not valid", d)
		}
		if d[0].To = 2; tongue.Valid(a, sample.Twins(), d) {
			t.Errorf("%v is valid", d)
		}
	})
}

// 3.2: of all small lists of ways the valid ones are as many as one counts.
func TestValidCounted(t *testing.T) {
	a := api.Sign{{Name: "C", Arity: 2}, {Name: "K", Arity: 2}, {Name: "T"}}
	b := api.Sign{{Name: "C", Arity: 2}, {Name: "T"}, {Name: "A", Arity: 2}, {Name: "F"}, {Name: "f", Arity: 3}}
	ways := []api.Way{}
	for to := -1; to <= 5; to++ {
		sample.Lists([]int{-1, 0, 1, 2}, 3, func(args api.Term) { ways = append(ways, api.Way{To: to, Args: args}) })
	}
	first, valid := api.Way{To: 0, Args: []int{0, 1}}, 0
	for _, x := range ways {
		for _, y := range ways {
			if tongue.Valid(a, b, []api.Way{first, x, y}) {
				valid++
			}
		}
		if x := []api.Way{x, {To: 0, Args: []int{0, 1}}, {To: 1}}; tongue.Valid(a, b, x) != tongue.Same(x[:1], []api.Way{first}) {
			t.Errorf("%v", x)
		}
	}
	if valid != 2*2*2 {
		t.Errorf("%d dictionaries are valid", valid)
	}
}

// 3.2
func TestOneToOne(t *testing.T) {
	s, twins := sample.Sign(), sample.Twins()
	both, _ := tongue.First(twins, twins)
	into, _ := tongue.First(s, twins)
	tests := []struct {
		a, b api.Sign
		d    []api.Way
		want bool
	}{
		{s, s, sample.RightWays(), true}, {two(), two(), flip(), true}, {twins, twins, both, false}, {s, twins, into, false},
		{two(), two(), []api.Way{flip()[0], {To: 0, Args: []int{1, 0}}}, false}, {api.Sign{{Name: "C", Arity: 2}}, two(), flip()[:1], false},
	}
	for _, x := range tests {
		if !tongue.Valid(x.a, x.b, x.d) || tongue.OneToOne(x.a, x.b, x.d) != x.want {
			t.Errorf("OneToOne(%v) is not %v", x.d, x.want)
		}
	}
	for _, d := range sample.WrongWays() {
		if tongue.OneToOne(s, s, d) {
			t.Errorf("OneToOne(%v)", d)
		}
	}
	var dice sample.Dice
	for range 100 {
		if d := dice.OneToOne(twins); !tongue.OneToOne(twins, twins, d) {
			t.Errorf("%v is not one to one", d)
		}
	}
}

// 3.2
func TestItself(t *testing.T) {
	want := []api.Way{{To: 0, Args: []int{0, 1}}, {To: 1, Args: []int{0}}, {To: 2}, {To: 3, Args: []int{0, 1, 2}}}
	if d, e := tongue.Itself(sample.Sign()); e != api.OK || !tongue.Same(d, want) {
		t.Errorf("Itself = %v, %d", d, e)
	}
	for _, s := range signs() {
		d, e := tongue.Itself(s)
		if e != api.OK || !tongue.OneToOne(s, s, d) {
			t.Errorf("Itself(%v) = %v, %d", s, d, e)
		}
		for _, u := range terms(s) {
			if w, e := tongue.Carried(s, s, d, u); e != api.OK || !slices.Equal(w, u) {
				t.Errorf("by itself %v becomes %v, %d", u, w, e)
			}
		}
	}
}

// 3.2
func TestInverse(t *testing.T) {
	s := sample.Sign()
	d, e := tongue.Inverse(s, s, sample.RightWays())
	want := []api.Way{{To: 0, Args: []int{0, 1}}, {To: 1, Args: []int{0}}, {To: 2}, {To: 3, Args: []int{1, 2, 0}}}
	if e != api.OK || !tongue.Same(d, want) {
		t.Errorf("Inverse = %v, %d", d, e)
	}
	a := api.Sign{{Name: "C", Arity: 2}, {Name: "T"}, {Name: "K", Arity: 2}}
	b := api.Sign{{Name: "D", Arity: 2}, {Name: "A", Arity: 2}, {Name: "F"}}
	d, e = tongue.Inverse(a, b, []api.Way{{To: 0, Args: []int{0, 1}}, {To: 2}, {To: 1, Args: []int{1, 0}}})
	want = []api.Way{{To: 0, Args: []int{0, 1}}, {To: 2, Args: []int{1, 0}}, {To: 1}}
	if e != api.OK || !tongue.Same(d, want) {
		t.Errorf("Inverse = %v, %d", d, e)
	}
}

// 3.2: ErrNone comes behind ErrInvalid.
func TestInverseNone(t *testing.T) {
	some := 0
	journeys(100, func(a, b api.Sign, d []api.Way) {
		if tongue.OneToOne(a, b, d) {
			return
		}
		if i, e := tongue.Inverse(a, b, d); e != api.ErrNone || len(i) != 0 {
			t.Errorf("Inverse(%v) = %v, %d", d, i, e)
		}
		d[1].To = -1
		if i, e := tongue.Inverse(a, b, d); e != api.ErrInvalid || len(i) != 0 {
			t.Errorf("Inverse(%v) = %v, %d", d, i, e)
		}
		some++
	})
	if some < 100 {
		t.Error(some)
	}
}

// P3.4: the inverse carries back, and is the inverse's inverse.
func TestInverseCarriesBack(t *testing.T) {
	var dice sample.Dice
	for range 100 {
		for _, s := range full() {
			d := dice.OneToOne(s)
			i, e := tongue.Inverse(s, s, d)
			back, f := tongue.Inverse(s, s, i)
			if e != api.OK || f != api.OK || !tongue.Same(back, d) {
				t.Errorf("Inverse(%v) = %v, %d, and of that %v, %d", d, i, e, back, f)
			}
			nothing, _ := tongue.Itself(s)
			if c, e := tongue.Composed(s, s, s, d, i); e != api.OK || !tongue.Same(c, nothing) {
				t.Errorf("Composed(%v, %v) = %v, %d", d, i, c, e)
			}
			u := dice.Term(s, 60, 4)
			there, _ := tongue.Carried(s, s, d, u)
			if again, e := tongue.Carried(s, s, i, there); e != api.OK || !slices.Equal(again, u) {
				t.Errorf("%v, %v, %v, %d", u, there, again, e)
			}
		}
	}
}

// 3.2, P3.4: Composed carries by both, and is associative.
func TestComposed(t *testing.T) {
	var dice sample.Dice
	for range 200 {
		a, b, c, z := full()[dice.Roll(2)], full()[dice.Roll(2)], full()[dice.Roll(2)], full()[dice.Roll(2)]
		d, e, f := dice.Ways(a, b), dice.Ways(b, c), dice.Ways(c, z)
		de, bad := tongue.Composed(a, b, c, d, e)
		if bad != api.OK || !tongue.Valid(a, c, de) {
			t.Errorf("Composed(%v, %v) = %v, %d", d, e, de, bad)
		}
		for _, u := range append(atoms(a), dice.Term(a, 60, 3)) {
			v, _ := tongue.Carried(a, b, d, u)
			w, _ := tongue.Carried(b, c, e, v)
			if got, _ := tongue.Carried(a, c, de, u); !slices.Equal(got, w) {
				t.Errorf("%v, %v: %v becomes %v and %v, not %v", d, e, u, v, w, got)
			}
		}
		ef, _ := tongue.Composed(b, c, z, e, f)
		left, _ := tongue.Composed(a, c, z, de, f)
		right, _ := tongue.Composed(a, b, z, d, ef)
		if !tongue.Same(left, right) || len(left) == 0 {
			t.Errorf("%v, %v, %v: %v, %v", d, e, f, left, right)
		}
	}
}

// 3.2
func TestSame(t *testing.T) {
	lists := [][]api.Way{
		nil, {{To: 0}}, {{To: 1}}, {{To: 0}, {To: 0}}, {{To: 0, Args: []int{0}}}, {{To: 0, Args: []int{1}}}, {{To: 0, Args: []int{0, 1}}}, {{To: 0, Args: []int{1, 0}}},
		{{To: -7, Args: []int{-3, 99}}}, {{To: 0}, {To: 1}}, {{To: 1}, {To: 0}}, flip(), flip()[1:], make([]api.Way, 100),
	}
	for i, d := range lists {
		for k, e := range lists {
			if got := tongue.Same(d, e); got != (i == k) {
				t.Errorf("Same(%v, %v) = %v", d, e, got)
			}
		}
	}
	if !tongue.Same(nil, []api.Way{}) || !tongue.Same([]api.Way{{Args: nil}}, []api.Way{{Args: []int{}}}) {
		t.Error("nil and empty lists are not the same")
	}
}

// 3.3
func TestImage(t *testing.T) {
	d := []api.Way{{To: 0, Args: []int{0, 1}}, {To: 3, Args: []int{0}}, {To: 8}, {To: 4, Args: []int{1, 0, 2}}}
	if list, e := tongue.Image(sample.Sign(), sample.Twins(), d); e != api.OK || !slices.Equal(list, []int{0, 3, 4, 8}) {
		t.Errorf("Image = %v, %d", list, e)
	}
	journeys(100, func(a, b api.Sign, d []api.Way) {
		want := []int{}
		for y := range b {
			if slices.ContainsFunc(d, func(way api.Way) bool { return way.To == y }) {
				want = append(want, y)
			}
		}
		if list, e := tongue.Image(a, b, d); e != api.OK || !slices.Equal(list, want) {
			t.Errorf("Image(%v) = %v, %d", d, list, e)
		}
	})
}

// 3.3
func TestFirst(t *testing.T) {
	want := []api.Way{{To: 0, Args: []int{0, 1}}, {To: 3, Args: []int{0}}, {To: 1}, {To: 4, Args: []int{0, 1, 2}}}
	if d, e := tongue.First(sample.Sign(), sample.Twins()); e != api.OK || !tongue.Same(d, want) {
		t.Errorf("First = %v, %d", d, e)
	}
	all := append(signs(), two())
	none := 0
	for _, a := range all {
		for _, b := range all {
			d, e := tongue.First(a, b)
			if lacksArity(a, b) {
				none++
				if e != api.ErrNone || len(d) != 0 {
					t.Errorf("First(%v, %v) = %v, %d", a, b, d, e)
				}
				continue
			}
			if e != api.OK || !tongue.Valid(a, b, d) || !isFirst(b, d) {
				t.Errorf("First(%v, %v) = %v, %d", a, b, d, e)
			}
		}
	}
	if none == 0 {
		t.Error("no pair of signs without a dictionary")
	}
}

func lacksArity(a, b api.Sign) bool {
	for _, x := range a {
		if !slices.ContainsFunc(b, func(y api.Symbol) bool { return x.Arity == y.Arity }) {
			return true
		}
	}
	return false
}

// isFirst tells whether no way could lead to a symbol before.
func isFirst(b api.Sign, d []api.Way) bool {
	for _, way := range d {
		for _, symbol := range b[:way.To] {
			if symbol.Arity == b[way.To].Arity {
				return false
			}
		}
		if !slices.IsSorted(way.Args) {
			return false
		}
	}
	return true
}

// 3.3
func TestOrder(t *testing.T) {
	s := api.Sign{{Name: "C", Arity: 2}, {Name: "T"}, {Name: "F"}, {Name: "f", Arity: 3}, {Name: "g", Arity: 3}}
	c := api.Way{To: 0, Args: []int{0, 1}}
	f := func(to int, args ...int) api.Way { return api.Way{To: to, Args: args} }
	tests := []struct {
		d    []api.Way
		want int
	}{
		{[]api.Way{c, f(1), f(2), f(3, 0, 1, 2), f(4, 0, 1, 2)}, 1},
		{[]api.Way{c, f(2), f(1), f(3, 0, 1, 2), f(4, 0, 1, 2)}, 2},
		{[]api.Way{c, f(1), f(2), f(3, 1, 0, 2), f(4, 0, 1, 2)}, 2},
		{[]api.Way{c, f(1), f(2), f(3, 1, 2, 0), f(4, 0, 1, 2)}, 3},
		{[]api.Way{c, f(1), f(2), f(3, 1, 2, 0), f(4, 1, 0, 2)}, 6},
		{[]api.Way{c, f(2), f(1), f(3, 1, 2, 0), f(4, 0, 1, 2)}, 6},
		{[]api.Way{c, f(1), f(2), f(4, 1, 0, 2), f(3, 0, 1, 2)}, 4},
		{[]api.Way{c, f(1), f(2), f(4, 1, 0, 2), f(3, 1, 0, 2)}, 2},
		{[]api.Way{c, f(1), f(2), f(4, 1, 2, 0), f(3, 0, 1, 2)}, 6},
	}
	for _, x := range tests {
		if n, e := tongue.Order(s, x.d); n != x.want || e != api.OK {
			t.Errorf("Order(%v) = %d, %d, not %d", x.d, n, e, x.want)
		}
	}
	if n, e := tongue.Order(two(), flip()); n != 2 || e != api.OK {
		t.Errorf("Order = %d, %d", n, e)
	}
}

// 3.3: the greatest orders come of cycles of the symbols whose lengths have
// nothing in common.
func TestGreatOrder(t *testing.T) {
	s := api.Sign{{Name: "C", Arity: 2}}
	d := []api.Way{{To: 0, Args: []int{0, 1}}}
	for i := range 11 {
		s = append(s, api.Symbol{Name: string(rune('a' + i)), Arity: 3})
		to := 1 + (i+1)%4
		if i >= 4 {
			to = 5 + (i-3)%7
		}
		args := []int{0, 1, 2}
		if i == 0 {
			args = []int{1, 0, 2}
		}
		if i == 4 {
			args = []int{1, 2, 0}
		}
		d = append(d, api.Way{To: to, Args: args})
	}
	if n, e := tongue.Order(s, d); n != 8*21 || e != api.OK {
		t.Errorf("Order = %d, %d", n, e)
	}
}

// 3.3, P3.6: after Order times nothing is changed, and after fewer something.
func TestOrderTimes(t *testing.T) {
	var dice sample.Dice
	for range 200 {
		s := full()[dice.Roll(2)]
		d := dice.OneToOne(s)
		n, e := tongue.Order(s, d)
		if n < 1 || e != api.OK {
			t.Fatalf("Order(%v) = %d, %d", d, n, e)
		}
		l := atoms(s)
		for times := 1; times <= n; times++ {
			changed := false
			for i, u := range l {
				l[i], _ = tongue.Carried(s, s, d, u)
				changed = changed || !slices.Equal(l[i], atoms(s)[i])
			}
			if changed != (times < n) {
				t.Errorf("Order(%v) = %d, but %d times make %v", d, n, times, l)
			}
		}
	}
}

// 3.3: ErrNone comes behind ErrInvalid.
func TestOrderNone(t *testing.T) {
	s := sample.Twins()
	d, _ := tongue.First(s, s)
	if n, e := tongue.Order(s, d); e != api.ErrNone || n != 0 {
		t.Errorf("Order(%v) = %d, %d", d, n, e)
	}
	d[2].Args[0] = 1
	if n, e := tongue.Order(s, d); e != api.ErrInvalid || n != 0 {
		t.Errorf("Order(%v) = %d, %d", d, n, e)
	}
}

// P2: names of symbols do not count for dictionaries.
func TestNamesOfSymbols(t *testing.T) {
	s := sample.Twins()
	renamed := slices.Clone(s)
	for i := range renamed {
		renamed[i].Name = string(rune('p' + i))
	}
	d, _ := tongue.First(s, renamed)
	e, _ := tongue.First(s, s)
	if len(d) != len(s) || !tongue.Same(d, e) || !term.ValidSign(renamed) {
		t.Errorf("%v, %v", d, e)
	}
}
