package kernel

import (
	"slices"

	"lemmary/api"
)

// fit makes the premise of a major and a minor the same term. Both together may
// have twice as many variables as a term may, and what they become may be far
// too great where the detachment is small: so nothing but that is written out.
// A part is known by the index of the number with which it begins.
type fit struct {
	sign    api.Sign
	numbers []int // of the major and, behind them, of the minor
	behind  []int // by part: the index behind it
	proxy   []int // by part: another one that becomes the same term, or itself
}

// premise is the part A of a major "if A then B"; B stands behind it.
const premise = 1

// fitted returns the fit of a major and a minor of which there is a detachment.
func fitted(s api.Sign, m, n api.Term) *fit {
	f := &fit{sign: s, numbers: slices.Clone(m)}
	for _, x := range n {
		if x < 0 {
			x -= api.MaxVars
		}
		f.numbers = append(f.numbers, x)
	}
	f.behind = make([]int, len(f.numbers))
	f.proxy = make([]int, len(f.numbers))
	for part, x := range slices.Backward(f.numbers) {
		f.behind[part] = part + 1
		for range f.arity(part) {
			f.behind[part] = f.behind[f.behind[part]]
		}
		f.proxy[part] = part
		if x < 0 {
			f.proxy[part] = slices.Index(f.numbers, x)
		}
	}
	f.unite(premise, len(m))
	return f
}

func (f *fit) arity(part int) int {
	if f.numbers[part] < 0 {
		return 0
	}
	return f.sign[f.numbers[part]].Arity
}

// args returns the arguments of a part.
func (f *fit) args(part int) []int {
	args := make([]int, f.arity(part))
	next := part + 1
	for k := range args {
		args[k] = next
		next = f.behind[next]
	}
	return args
}

// root returns the part that stands for all parts that become the same term.
func (f *fit) root(part int) int {
	for f.proxy[part] != part {
		part = f.proxy[part]
	}
	return part
}

// unite lets two parts become the same term, with nothing that this does not
// need. They can, as there is a detachment: two symbols that meet are the same.
func (f *fit) unite(a, b int) {
	a, b = f.root(a), f.root(b)
	if a == b {
		return
	}
	if f.numbers[b] < 0 {
		a, b = b, a
	}
	f.proxy[a] = b
	others := f.args(b)
	for k, arg := range f.args(a) {
		f.unite(arg, others[k])
	}
}

// form returns the canonical form of what a part becomes: ErrLimit if that is no
// valid term.
func (f *fit) form(part int) (api.Term, api.Errno) {
	t := api.Term{}
	renamed := map[int]int{}
	var write func(part int) bool
	write = func(part int) bool {
		part = f.root(part)
		x := f.numbers[part]
		if x < 0 {
			if _, met := renamed[x]; !met {
				renamed[x] = -len(renamed) - 1
			}
			x = renamed[x]
		}
		t = append(t, x)
		if len(t) > api.MaxSize || len(renamed) > api.MaxVars {
			return false
		}
		for _, arg := range f.args(part) {
			if !write(arg) {
				return false
			}
		}
		return true
	}
	if !write(part) {
		return nil, api.ErrLimit
	}
	return t, api.OK
}
