package unify

import (
	"lemmary/api"
)

// found is what a unification has found so far. Each part of its terms has a
// node, and each variable one node for all places at which it comes. Terms that
// become the same term have nodes that stand for each other, so that no term
// has to be written out to be compared: it may be far too great.
type found struct {
	logic
	tops  []int       // by node: the number with which its part begins
	args  [][]int     // by node: the nodes of the arguments
	proxy []int       // by node: another one that becomes the same term, or itself
	vars  map[int]int // the nodes of variables, by their numbers in tops
}

// equation says that two nodes become the same term.
type equation struct {
	left, right int
}

// search returns a unification of terms of a valid sign that has found nothing.
func search(s api.Sign) *found {
	return &found{logic: logic{s}, vars: map[int]int{}}
}

// add gives nodes to all parts of a valid term and returns the one of the term
// itself. Terms that are added with different shifts, which are multiples of
// MaxVars, share no variables.
func (f *found) add(t api.Term, shift int) int {
	at := 0
	var next func() int
	next = func() int {
		top := t[at]
		at++
		if top < 0 {
			return f.variable(top - shift)
		}
		node := f.node(top)
		for range f.arity(top) {
			arg := next()
			f.args[node] = append(f.args[node], arg)
		}
		return node
	}
	return next()
}

func (f *found) node(top int) int {
	node := len(f.tops)
	f.tops = append(f.tops, top)
	f.args = append(f.args, nil)
	f.proxy = append(f.proxy, node)
	return node
}

func (f *found) variable(top int) int {
	node, met := f.vars[top]
	if !met {
		node = f.node(top)
		f.vars[top] = node
	}
	return node
}

// root returns the node that stands for all nodes that become the same term.
func (f *found) root(node int) int {
	for f.proxy[node] != node {
		node = f.proxy[node]
	}
	return node
}

// solve finds what makes two nodes the same term, and nothing that this does
// not need. It reports whether there is such a term. What it finds is only good
// if there is.
func (f *found) solve(a, b int) bool {
	stack := []equation{{a, b}}
	for len(stack) > 0 {
		last := stack[len(stack)-1]
		stack = stack[:len(stack)-1]
		x, y := f.root(last.left), f.root(last.right)
		if x == y {
			continue
		}
		if f.tops[y] < 0 {
			x, y = y, x
		}
		f.proxy[x] = y
		if f.tops[x] < 0 {
			continue
		}
		if f.tops[x] != f.tops[y] {
			return false
		}
		for k, arg := range f.args[x] {
			stack = append(stack, equation{arg, f.args[y][k]})
		}
	}
	return !f.endless(a)
}

// endless reports whether a variable comes in what it becomes, in any part of
// what a node becomes: no term is like that.
func (f *found) endless(node int) bool {
	inside := make([]bool, len(f.tops))
	done := make([]bool, len(f.tops))
	var comesAgain func(node int) bool
	comesAgain = func(node int) bool {
		node = f.root(node)
		if inside[node] || done[node] {
			return inside[node]
		}
		inside[node] = true
		for _, arg := range f.args[node] {
			if comesAgain(arg) {
				return true
			}
		}
		inside[node], done[node] = false, true
		return false
	}
	return comesAgain(node)
}

// written returns the term that a node becomes, but none that has more than
// MaxSize numbers.
func (f *found) written(node int) (t api.Term, short bool) {
	var write func(node int) bool
	write = func(node int) bool {
		node = f.root(node)
		if len(t) == api.MaxSize {
			return false
		}
		t = append(t, f.tops[node])
		for _, arg := range f.args[node] {
			if !write(arg) {
				return false
			}
		}
		return true
	}
	if !write(node) {
		return nil, false
	}
	return t, true
}

// form returns the canonical form of what a node becomes: ErrLimit if that is
// no valid term. Its variables may be of several shifts.
func (f *found) form(node int) (api.Term, api.Errno) {
	t, short := f.written(node)
	if !short {
		return nil, api.ErrLimit
	}
	number := map[int]int{}
	for i, x := range t {
		if x >= 0 {
			continue
		}
		if _, met := number[x]; !met {
			number[x] = -len(number) - 1
		}
		t[i] = number[x]
	}
	if len(number) > api.MaxVars {
		return nil, api.ErrLimit
	}
	return t, api.OK
}
