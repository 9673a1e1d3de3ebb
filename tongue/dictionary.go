package tongue

import (
	"slices"

	"lemmary/api"
	"lemmary/term"
)

// Valid reports whether d is a valid dictionary from a to b.
func Valid(a, b api.Sign, d []api.Way) bool {
	if !term.ValidSign(a) || !term.ValidSign(b) || len(d) != len(a) {
		return false
	}
	for i, way := range d {
		if way.To < 0 || way.To >= len(b) || b[way.To].Arity != a[i].Arity {
			return false
		}
		if len(way.Args) != a[i].Arity || !complete(way.Args) {
			return false
		}
	}
	return d[0].To == 0 && slices.Equal(d[0].Args, upTo(2))
}

// complete tells whether each number below the length comes just once.
func complete(args []int) bool {
	return slices.Equal(slices.Sorted(slices.Values(args)), upTo(len(args)))
}

// upTo returns 0, 1, 2, ..., so many numbers.
func upTo(count int) []int {
	numbers := make([]int, count)
	for i := range numbers {
		numbers[i] = i
	}
	return numbers
}

// OneToOne reports whether d is a dictionary from a to b that is one to one.
func OneToOne(a, b api.Sign, d []api.Way) bool {
	return Valid(a, b, d) && len(a) == len(b) && len(image(d)) == len(d)
}

// Itself returns the dictionary of a sign to itself that changes nothing.
func Itself(s api.Sign) ([]api.Way, api.Errno) {
	if !term.ValidSign(s) {
		return nil, api.ErrInvalid
	}
	return itself(s), api.OK
}

func itself(s api.Sign) []api.Way {
	d := make([]api.Way, len(s))
	for i, symbol := range s {
		d[i] = api.Way{To: i, Args: upTo(symbol.Arity)}
	}
	return d
}

// Inverse returns the inverse of a dictionary from a to b.
func Inverse(a, b api.Sign, d []api.Way) ([]api.Way, api.Errno) {
	if !Valid(a, b, d) {
		return nil, api.ErrInvalid
	}
	if !OneToOne(a, b, d) {
		return nil, api.ErrNone
	}
	return back(b, d), api.OK
}

// back returns the way back of each symbol of b to the first symbol that becomes
// it by d; its To is negative where there is none.
func back(b api.Sign, d []api.Way) []api.Way {
	ways := make([]api.Way, len(b))
	for y := range ways {
		first := slices.IndexFunc(d, func(way api.Way) bool { return way.To == y })
		ways[y].To = first
		if first < 0 {
			continue
		}
		ways[y].Args = make([]int, b[y].Arity)
		for k, arg := range d[first].Args {
			ways[y].Args[arg] = k
		}
	}
	return ways
}

// Composed returns the dictionary from a to c that carries by d, from a to b,
// and then by e, from b to c.
func Composed(a, b, c api.Sign, d, e []api.Way) ([]api.Way, api.Errno) {
	if !Valid(a, b, d) || !Valid(b, c, e) {
		return nil, api.ErrInvalid
	}
	return composed(d, e), api.OK
}

func composed(d, e []api.Way) []api.Way {
	both := make([]api.Way, len(d))
	for i, way := range d {
		next := e[way.To]
		args := make([]int, len(next.Args))
		for k, arg := range next.Args {
			args[k] = way.Args[arg]
		}
		both[i] = api.Way{To: next.To, Args: args}
	}
	return both
}

// Same reports whether two lists of ways are equal, whatever they are.
func Same(d, e []api.Way) bool {
	return slices.EqualFunc(d, e, func(x, y api.Way) bool {
		return x.To == y.To && slices.Equal(x.Args, y.Args)
	})
}

// Image returns the indexes of b, ascending, to which d carries symbols of a.
func Image(a, b api.Sign, d []api.Way) ([]int, api.Errno) {
	if !Valid(a, b, d) {
		return nil, api.ErrInvalid
	}
	return image(d), api.OK
}

func image(d []api.Way) []int {
	indexes := make([]int, len(d))
	for i, way := range d {
		indexes[i] = way.To
	}
	slices.Sort(indexes)
	return slices.Compact(indexes)
}

// First returns the first dictionary from a to b: each symbol becomes the first
// one with as many arguments.
func First(a, b api.Sign) ([]api.Way, api.Errno) {
	if !term.ValidSign(a) || !term.ValidSign(b) {
		return nil, api.ErrInvalid
	}
	d := make([]api.Way, len(a))
	for i, symbol := range a {
		to := slices.IndexFunc(b, func(other api.Symbol) bool { return other.Arity == symbol.Arity })
		if to < 0 {
			return nil, api.ErrNone
		}
		d[i] = api.Way{To: to, Args: upTo(symbol.Arity)}
	}
	return d, api.OK
}

// Order returns the least number of times, 1 or more, after which a one-to-one
// dictionary from a sign to itself changes nothing.
func Order(s api.Sign, d []api.Way) (int, api.Errno) {
	if !Valid(s, s, d) {
		return 0, api.ErrInvalid
	}
	if !OneToOne(s, s, d) {
		return 0, api.ErrNone
	}
	nothing := itself(s)
	times := 1
	for power := d; !Same(power, nothing); power = composed(power, d) {
		times++
	}
	return times, api.OK
}
