package sample

import (
	"math"
	"slices"

	"lemmary/api"
)

// Twins has several symbols of each arity, so that many dictionaries lead from
// it to itself, and to and from the sign of Sign.
func Twins() api.Sign {
	return api.Sign{
		{Name: "C", Arity: 2}, {Name: "x"}, {Name: "K", Arity: 2}, {Name: "N", Arity: 1}, {Name: "f", Arity: 3},
		{Name: "M", Arity: 1}, {Name: "A", Arity: 2}, {Name: "g", Arity: 3}, {Name: "T"}, {Name: "h", Arity: 3},
	}
}

// Ways returns a dictionary from a to b, which has a symbol of each arity of a.
func (d *Dice) Ways(a, b api.Sign) []api.Way {
	ways := []api.Way{{To: 0, Args: []int{0, 1}}}
	for _, symbol := range a[1:] {
		choice := indexes(b, symbol.Arity)
		ways = append(ways, api.Way{To: choice[d.Roll(len(choice))], Args: d.shuffled(symbol.Arity)})
	}
	return ways
}

// OneToOne returns a dictionary from a sign to itself that is one to one.
func (d *Dice) OneToOne(s api.Sign) []api.Way {
	left := [4][]int{}
	for arity := range left {
		left[arity] = indexes(s[1:], arity)
	}
	ways := []api.Way{{To: 0, Args: []int{0, 1}}}
	for _, symbol := range s[1:] {
		choice := left[symbol.Arity]
		at := d.Roll(len(choice))
		ways = append(ways, api.Way{To: 1 + choice[at], Args: d.shuffled(symbol.Arity)})
		left[symbol.Arity] = slices.Delete(choice, at, at+1)
	}
	return ways
}

func (d *Dice) shuffled(count int) []int {
	numbers := []int{}
	for k := range count {
		numbers = slices.Insert(numbers, d.Roll(k+1), k)
	}
	return numbers
}

// indexes returns the indexes of the symbols with an arity.
func indexes(s api.Sign, arity int) []int {
	list := []int{}
	for i, symbol := range s {
		if symbol.Arity == arity {
			list = append(list, i)
		}
	}
	return list
}

// RightWays returns a dictionary from Sign to itself that changes what f has.
func RightWays() []api.Way {
	return []api.Way{{To: 0, Args: []int{0, 1}}, {To: 1, Args: []int{0}}, {To: 2}, {To: 3, Args: []int{2, 0, 1}}}
}

// WrongWays holds dictionaries that are not valid from Sign to itself.
func WrongWays() [][]api.Way {
	wrong := [][]api.Way{nil, {}, RightWays()[:3], append(RightWays(), api.Way{To: 2})}
	change := func(i int, way api.Way) {
		d := RightWays()
		d[i] = way
		wrong = append(wrong, d)
	}
	for i, way := range RightWays() {
		for _, to := range []int{-1, (i + 1) % 4, 4, math.MinInt, math.MaxInt} {
			change(i, api.Way{To: to, Args: way.Args})
		}
		change(i, api.Way{To: way.To, Args: append(slices.Clone(way.Args), len(way.Args))})
		for k := range way.Args {
			change(i, api.Way{To: way.To, Args: slices.Delete(slices.Clone(way.Args), k, k+1)})
			for _, arg := range []int{-1, 3, way.Args[(k+1)%len(way.Args)], math.MinInt, math.MaxInt} {
				if arg == way.Args[k] {
					continue
				}
				args := slices.Clone(way.Args)
				args[k] = arg
				change(i, api.Way{To: way.To, Args: args})
			}
		}
	}
	change(0, api.Way{To: 0, Args: []int{1, 0}})
	change(3, api.Way{To: 3, Args: make([]int, 100000)})
	return wrong
}
