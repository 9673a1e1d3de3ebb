package sample

import "lemmary/api"

// Dice gives numbers that follow no plain pattern, and always the same ones: its
// zero value is ready.
type Dice struct {
	state uint64
}

// Roll returns a number from 0 to sides - 1.
func (d *Dice) Roll(sides int) int {
	d.state += 0x9e3779b97f4a7c15
	x := d.state
	x = (x ^ x>>30) * 0xbf58476d1ce4e5b9
	x = (x ^ x>>27) * 0x94d049bb133111eb
	x = (x ^ x>>31) >> 1
	return int(x % uint64(sides))
}

// Term returns a term of up to most numbers with up to so many variables.
func (d *Dice) Term(s api.Sign, most, vars int) api.Term {
	x := d.Roll(len(s))
	if s[x].Arity >= most || d.Roll(20) == 0 {
		return api.Term{-1 - d.Roll(vars)}
	}
	t := api.Term{x}
	for k := range s[x].Arity {
		room := most - len(t) - (s[x].Arity - k - 1)
		size := 1 + d.Roll(room)
		t = append(t, d.Term(s, size, vars)...)
	}
	return t
}

// Shuffle brings a list into another order.
func Shuffle[E any](d *Dice, list []E) {
	for i := len(list) - 1; i > 0; i-- {
		k := d.Roll(i + 1)
		list[i], list[k] = list[k], list[i]
	}
}
