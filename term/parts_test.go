package term_test

import (
	"math"
	"slices"
	"testing"

	"lemmary/api"
	"lemmary/sample"
	"lemmary/term"
)

func sameTerms(a, b []api.Term) bool {
	return slices.EqualFunc(a, b, func(x, y api.Term) bool { return slices.Equal(x, y) })
}

func samePaths(a, b [][]int) bool {
	return slices.EqualFunc(a, b, func(x, y []int) bool { return slices.Equal(x, y) })
}

// 1.3
func TestArgs(t *testing.T) {
	tests := []struct {
		u    api.Term
		args []api.Term
	}{
		{api.Term{-4}, nil}, {api.Term{2}, nil}, {api.Term{1, -2}, []api.Term{{-2}}}, {api.Term{0, -1, 0, -2, -1}, []api.Term{{-1}, {0, -2, -1}}},
		{api.Term{3, 2, 1, -1, 0, 2, 1, -1}, []api.Term{{2}, {1, -1}, {0, 2, 1, -1}}}, {sample.Tower(60), []api.Term{sample.Tower(59)}},
	}
	for _, test := range tests {
		if args, e := term.Args(sample.Sign(), test.u); !sameTerms(args, test.args) || e != api.OK {
			t.Errorf("Args(%v) = %v, %d", test.u, args, e)
		}
	}
}

// 1.3
func TestBuilt(t *testing.T) {
	big := sample.Tower(59)
	tests := []struct {
		symbol int
		args   []api.Term
		want   api.Term
	}{
		{2, nil, api.Term{2}}, {1, []api.Term{{-3}}, api.Term{1, -3}}, {0, []api.Term{{-3}, {1, 2}}, api.Term{0, -3, 1, 2}},
		{3, []api.Term{{-1}, {2}, {0, 2, -1}}, api.Term{3, -1, 2, 0, 2, -1}}, {1, []api.Term{big}, sample.Tower(60)}, {0, []api.Term{sample.Tower(58), {-1}}, append(api.Term{0}, append(sample.Tower(58), -1)...)},
	}
	for _, test := range tests {
		if u, e := term.Built(sample.Sign(), test.symbol, test.args); !slices.Equal(u, test.want) || e != api.OK {
			t.Errorf("Built(%d, %v) = %v, %d", test.symbol, test.args, u, e)
		}
	}
}

// 1.3: the errors of Built, and which of several comes first.
func TestBuiltErrors(t *testing.T) {
	u, wrong, big := api.Term{-1}, api.Term{0}, sample.Tower(60)
	tests := []struct {
		symbol int
		args   []api.Term
		want   api.Errno
	}{
		{4, []api.Term{wrong}, api.ErrInvalid}, {1, []api.Term{wrong, u}, api.ErrInvalid}, {1, []api.Term{u, wrong}, api.ErrInvalid}, {0, []api.Term{big, sample.Tower(61)}, api.ErrInvalid}, {1, []api.Term{nil}, api.ErrInvalid},
		{4, nil, api.ErrName}, {-1, nil, api.ErrName}, {4, []api.Term{u, u, u, u}, api.ErrName}, {math.MinInt, nil, api.ErrName}, {math.MaxInt, []api.Term{big, big}, api.ErrName},
		{0, nil, api.ErrSize}, {0, []api.Term{u}, api.ErrSize}, {0, []api.Term{u, u, u}, api.ErrSize}, {2, []api.Term{u}, api.ErrSize}, {1, []api.Term{big, big}, api.ErrSize}, {3, slices.Repeat([]api.Term{u}, 100000), api.ErrSize},
		{1, []api.Term{big}, api.ErrLimit}, {0, []api.Term{u, sample.Tower(59)}, api.ErrLimit}, {3, []api.Term{sample.Tower(58), u, u}, api.ErrLimit}, {3, []api.Term{big, big, big}, api.ErrLimit},
	}
	for _, test := range tests {
		if got, e := term.Built(sample.Sign(), test.symbol, test.args); e != test.want || len(got) != 0 {
			t.Errorf("Built(%d, %d terms) = %v, %d, not %d", test.symbol, len(test.args), got, e, test.want)
		}
	}
}

// P1.3: a term is built of its symbol and its arguments.
func TestBuiltOfArgs(t *testing.T) {
	s := sample.Sign()
	for _, u := range terms() {
		args, e := term.Args(s, u)
		if u[0] < 0 {
			if len(args) != 0 || e != api.OK {
				t.Errorf("Args(%v) = %v, %d", u, args, e)
			}
			continue
		}
		back, f := term.Built(s, u[0], args)
		if e != api.OK || f != api.OK || !slices.Equal(back, u) {
			t.Errorf("Built of the Args of %v = %v, %d, %d", u, back, e, f)
		}
	}
}

// 1.3
func TestAt(t *testing.T) {
	f := api.Term{3, 2, 1, -1, 0, 2, 1, -1}
	tests := []struct {
		path []int
		part api.Term
	}{
		{nil, f}, {[]int{}, f}, {[]int{0}, api.Term{2}}, {[]int{1}, api.Term{1, -1}}, {[]int{1, 0}, api.Term{-1}},
		{[]int{2}, api.Term{0, 2, 1, -1}}, {[]int{2, 0}, api.Term{2}}, {[]int{2, 1}, api.Term{1, -1}}, {[]int{2, 1, 0}, api.Term{-1}},
	}
	for _, test := range tests {
		if part, e := term.At(sample.Sign(), f, test.path); !slices.Equal(part, test.part) || e != api.OK {
			t.Errorf("At(%v) = %v, %d", test.path, part, e)
		}
	}
	if part, e := term.At(sample.Sign(), sample.Tower(60), make([]int, 59)); !slices.Equal(part, api.Term{2}) || e != api.OK {
		t.Errorf("At of a tower = %v, %d", part, e)
	}
}

func wrongPaths() [][]int {
	return [][]int{{3}, {-1}, {0, 0}, {1, 1}, {1, 0, 0}, {2, 2}, {2, -1}, {2, 1, 0, 0}, {0, -1}, {math.MinInt}, {math.MaxInt}, {2, math.MaxInt}, make([]int, 100000)}
}

// 1.3: paths that there are not; a wrong term comes before them.
func TestNoSuchPath(t *testing.T) {
	f := api.Term{3, 2, 1, -1, 0, 2, 1, -1}
	for _, path := range wrongPaths() {
		if part, e := term.At(sample.Sign(), f, path); e != api.ErrNone || len(part) != 0 {
			t.Errorf("At(%v) = %v, %d", path, part, e)
		}
		if u, e := term.Put(sample.Sign(), f, path, sample.Tower(60)); e != api.ErrNone || len(u) != 0 {
			t.Errorf("Put(%v) = %v, %d", path, u, e)
		}
		if u, e := term.At(sample.Sign(), api.Term{0}, path); e != api.ErrInvalid || len(u) != 0 {
			t.Errorf("At(%v) of a wrong term = %v, %d", path, u, e)
		}
		if u, e := term.Put(sample.Sign(), f, path, sample.Tower(61)); e != api.ErrInvalid || len(u) != 0 {
			t.Errorf("Put(%v) of a wrong term = %v, %d", path, u, e)
		}
	}
}

// 1.3: At leads to each part, and to nothing else.
func TestAtOfAllPaths(t *testing.T) {
	s := sample.Sign()
	for _, u := range terms() {
		for _, path := range paths(s, u) {
			want := partAt(s, u, path)
			if part, e := term.At(s, u, path); e != api.OK || !slices.Equal(part, want) {
				t.Errorf("At(%v, %v) = %v, %d", u, path, part, e)
			}
			arity := 0
			if want[0] >= 0 {
				arity = s[want[0]].Arity
			}
			for _, k := range []int{-1, arity} {
				if part, e := term.At(s, u, append(slices.Clone(path), k)); e != api.ErrNone || len(part) != 0 {
					t.Errorf("At(%v, %v, %d) = %v, %d", u, path, k, part, e)
				}
			}
		}
	}
}

// P1.3: At of a term's argument is an argument's At.
func TestAtOfArgument(t *testing.T) {
	s := sample.Sign()
	for _, u := range terms() {
		args, _ := term.Args(s, u)
		for _, path := range paths(s, u) {
			if len(path) == 0 {
				continue
			}
			part, e := term.At(s, u, path)
			inner, f := term.At(s, args[path[0]], path[1:])
			if e != api.OK || f != api.OK || !slices.Equal(part, inner) {
				t.Errorf("At(%v, %v) = %v, %d", u, path, part, e)
			}
		}
	}
}

// 1.3
func TestPut(t *testing.T) {
	f := api.Term{3, 2, 1, -1, 0, 2, 1, -1}
	tests := []struct {
		path    []int
		u, want api.Term
	}{
		{nil, api.Term{-7}, api.Term{-7}}, {nil, sample.Tower(60), sample.Tower(60)}, {[]int{0}, api.Term{-12}, api.Term{3, -12, 1, -1, 0, 2, 1, -1}},
		{[]int{1}, api.Term{0, -2, -2}, api.Term{3, 2, 0, -2, -2, 0, 2, 1, -1}}, {[]int{2}, api.Term{-1}, api.Term{3, 2, 1, -1, -1}},
		{[]int{2, 1, 0}, api.Term{1, 2}, api.Term{3, 2, 1, -1, 0, 2, 1, 1, 2}}, {[]int{0}, sample.Tower(53), slices.Concat(api.Term{3}, sample.Tower(53), f[2:])},
	}
	for _, test := range tests {
		if got, e := term.Put(sample.Sign(), f, test.path, test.u); !slices.Equal(got, test.want) || e != api.OK {
			t.Errorf("Put(%v, %v) = %v, %d", test.path, test.u, got, e)
		}
	}
}

// 1.3: what is put in counts, and what it takes the place of does not.
func TestPutLimit(t *testing.T) {
	f := api.Term{3, 2, 1, -1, 0, 2, 1, -1}
	for _, path := range paths(sample.Sign(), f) {
		most := api.MaxSize - len(f) + len(partAt(sample.Sign(), f, path))
		if u, e := term.Put(sample.Sign(), f, path, sample.Tower(most)); e != api.OK || len(u) != api.MaxSize {
			t.Errorf("Put(%v) of %d numbers: %d numbers, %d", path, most, len(u), e)
		}
		if most == api.MaxSize {
			continue
		}
		if u, e := term.Put(sample.Sign(), f, path, sample.Tower(most+1)); e != api.ErrLimit || len(u) != 0 {
			t.Errorf("Put(%v) of %d numbers: %v, %d", path, most+1, u, e)
		}
	}
}

// P1.3: what is put in is there, and putting a part in its own place changes
// nothing.
func TestPutAndAt(t *testing.T) {
	s := sample.Sign()
	for i, u := range terms() {
		for _, path := range paths(s, u) {
			part, _ := term.At(s, u, path)
			if same, e := term.Put(s, u, path, part); e != api.OK || !slices.Equal(same, u) {
				t.Errorf("Put(%v, %v, %v) = %v, %d", u, path, part, same, e)
			}
			v := api.Term{1, -1 - i%12}
			changed, e := term.Put(s, u, path, v)
			if e == api.ErrLimit && len(u)-len(part)+len(v) > api.MaxSize {
				continue
			}
			if back, f := term.At(s, changed, path); e != api.OK || f != api.OK || !slices.Equal(back, v) {
				t.Errorf("Put(%v, %v, %v) = %v, %d", u, path, v, changed, e)
			}
		}
	}
}

// 1.3
func TestPaths(t *testing.T) {
	f := api.Term{3, 2, 1, -1, 0, 2, 1, -1}
	tests := []struct {
		t, u api.Term
		want [][]int
	}{
		{f, f, [][]int{{}}}, {f, api.Term{1, -1}, [][]int{{1}, {2, 1}}}, {f, api.Term{2}, [][]int{{0}, {2, 0}}}, {f, api.Term{-1}, [][]int{{1, 0}, {2, 1, 0}}},
		{f, api.Term{-2}, nil}, {f, api.Term{1, -2}, nil}, {api.Term{-2}, api.Term{-1}, nil}, {api.Term{1, 2}, sample.Tower(60), nil},
		{api.Term{0, 0, -1, -1, -1}, api.Term{-1}, [][]int{{0, 0}, {0, 1}, {1}}},
	}
	for _, test := range tests {
		if got, e := term.Paths(sample.Sign(), test.t, test.u); !samePaths(got, test.want) || e != api.OK {
			t.Errorf("Paths(%v, %v) = %v, %d", test.t, test.u, got, e)
		}
	}
}

// P1.4: at each path there is the part, and at no other one.
func TestPathsOfParts(t *testing.T) {
	s := sample.Sign()
	for _, u := range terms() {
		all := paths(s, u)
		for _, part := range append([]api.Term{{-1}, {2}, {1, 2}}, partAt(s, u, all[len(all)/2]), u) {
			var want [][]int
			for _, path := range all {
				if slices.Equal(partAt(s, u, path), part) {
					want = append(want, path)
				}
			}
			if got, e := term.Paths(s, u, part); !samePaths(got, want) || e != api.OK {
				t.Errorf("Paths(%v, %v) = %v, %d", u, part, got, e)
			}
		}
	}
}

// 1.3
func TestParts(t *testing.T) {
	f := api.Term{3, 2, 1, -1, 0, 2, 1, -1}
	tests := []struct {
		u    api.Term
		want []api.Term
	}{
		{api.Term{-9}, []api.Term{{-9}}}, {api.Term{2}, []api.Term{{2}}}, {f, []api.Term{{-1}, {2}, {1, -1}, {0, 2, 1, -1}, f}},
		{api.Term{0, -1, 0, -2, -1}, []api.Term{{-2}, {-1}, {0, -2, -1}, {0, -1, 0, -2, -1}}}, {api.Term{3, 2, 2, 2}, []api.Term{{2}, {3, 2, 2, 2}}},
	}
	for _, test := range tests {
		if got, e := term.Parts(sample.Sign(), test.u); !sameTerms(got, test.want) || e != api.OK {
			t.Errorf("Parts(%v) = %v, %d", test.u, got, e)
		}
	}
}

// 1.3: Parts are the terms at all paths, each once, in order.
func TestPartsOfAllPaths(t *testing.T) {
	s := sample.Sign()
	for _, u := range terms() {
		parts, e := term.Parts(s, u)
		if e != api.OK {
			t.Fatalf("Parts(%v): %d", u, e)
		}
		for i := 1; i < len(parts); i++ {
			if term.Compare(parts[i-1], parts[i]) >= 0 {
				t.Errorf("Parts(%v): %v before %v", u, parts[i-1], parts[i])
			}
		}
		found := map[int]bool{}
		for _, path := range paths(s, u) {
			i, there := slices.BinarySearchFunc(parts, partAt(s, u, path), term.Compare)
			if !there {
				t.Errorf("Parts(%v) lacks the part at %v", u, path)
			}
			found[i] = true
		}
		if len(found) != len(parts) {
			t.Errorf("Parts(%v) has %d parts, not %d", u, len(parts), len(found))
		}
	}
}
