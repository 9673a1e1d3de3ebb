package short_test

import (
	"slices"

	"lemmary/api"
	"lemmary/kernel"
	"lemmary/sample"
)

// ks returns the chapter's givens.
func ks() []api.Term {
	return []api.Term{sample.K(), sample.S()}
}

// example is the chapter's proof.
func example() []api.Step {
	c, d := sample.Cite, sample.Detach
	return []api.Step{c(1), c(0), c(0), d(0, 1), d(3, 2)}
}

// proofs calls visit with random proofs that are good. Many of their steps say
// the same, or an instance of a given, and many are not needed.
func proofs(count, most int, visit func(s api.Sign, g []api.Term, p []api.Step)) {
	var d sample.Dice
	s := sample.Sign()
	for range count {
		g := givens(&d, s)
		visit(s, g, good(&d, s, g, 1+d.Roll(most)))
	}
}

// good returns a random proof that is good.
func good(d *sample.Dice, s api.Sign, g []api.Term, most int) []api.Step {
	return d.Proof(len(g), most, func(p []api.Step) bool { return isGood(s, g, p) })
}

// isGood tells by the kernel whether all steps of a proof say something.
func isGood(s api.Sign, g []api.Term, p []api.Step) bool {
	_, _, e := kernel.Run(s, g, p)
	return e == api.OK
}

// givens returns random givens, in no order, of which some are alike, and some
// are instances of others.
func givens(d *sample.Dice, s api.Sign) []api.Term {
	choice := []api.Term{
		{0, -1, -1}, {0, -1, -2}, {0, -1, 0, -2, -2}, {0, 1, -1, -2}, {1, -1}, {0, 0, -1, -2, 0, -1, -2}, {0, -1, 0, -2, -3}, {0, 2, -1},
		{0, 0, -1, -1, 0, -2, -2}, {0, -1, 1, 1, -1}, {0, 3, -1, -2, -3, 3, -3, -1, -2}, sample.K(), sample.S(),
	}
	g := ks()
	for range d.Roll(5) {
		t := choice[d.Roll(len(choice))]
		if d.Roll(3) == 0 {
			t = d.Term(s, 1+d.Roll(12), 4)
		}
		g = append(g, sample.Apart(t, d.Roll(5)))
	}
	if d.Roll(30) == 0 {
		g = append(g, api.Term{-1 - d.Roll(12)})
	}
	sample.Shuffle(d, g)
	return g
}

// shapes calls visit with all proofs of up to five steps for two givens, and
// with random ones of up to so many steps for three, whatever they say.
func shapes(count, most int, visit func(givens int, p []api.Step)) {
	var grow func(p []api.Step)
	grow = func(p []api.Step) {
		if len(p) > 0 {
			visit(2, slices.Clone(p))
		}
		if len(p) == 5 {
			return
		}
		for a := range len(p) {
			for b := range len(p) {
				grow(append(p, sample.Detach(a, b)))
			}
		}
		grow(append(p, sample.Cite(0)))
		grow(append(p, sample.Cite(1)))
	}
	grow(nil)
	var d sample.Dice
	for range count {
		visit(3, d.Proof(3, 1+d.Roll(most), func(p []api.Step) bool { return true }))
	}
}

// without returns a proof without the step i; later steps detach another one,
// an earlier one, in its place.
func without(p []api.Step, i, other int) []api.Step {
	l := []api.Step{}
	moved := func(k int) int {
		if k == i {
			return other
		}
		if k > i {
			return k - 1
		}
		return k
	}
	for k, step := range p {
		if step.Kind == api.SDetach {
			step = sample.Detach(moved(step.A), moved(step.B))
		}
		if k != i {
			l = append(l, step)
		}
	}
	return l
}

// trimmed takes out steps that no other one detaches, one after the other.
func trimmed(p []api.Step) []api.Step {
	for i := len(p) - 2; i >= 0; i-- {
		detaches := func(step api.Step) bool { return step.Kind == api.SDetach && (step.A == i || step.B == i) }
		if !slices.ContainsFunc(p, detaches) {
			p = without(p, i, -1)
		}
	}
	return p
}

// merged takes out steps that say what an earlier one says, one after the other.
func merged(s api.Sign, g []api.Term, p []api.Step) []api.Step {
	said, _, _ := kernel.Run(s, g, p)
	for i := 0; i < len(p); {
		first := slices.IndexFunc(said, func(t api.Term) bool { return slices.Equal(t, said[i]) })
		if first == i {
			i++
			continue
		}
		if i == len(p)-1 {
			return p[:first+1]
		}
		p, said = without(p, i, first), slices.Delete(said, i, i+1)
	}
	return p
}

// widest returns the given that Citing cites for what a step says, or -1: by the
// chapter's words, without what follows from them.
func widest(s api.Sign, g []api.Term, t api.Term) int {
	these := []int{}
	for i, u := range g {
		if sample.Instance(s, u, t) {
			these = append(these, i)
		}
	}
	for _, i := range these {
		moreGeneral := func(k int) bool { return sample.Instance(s, g[k], g[i]) && !sample.Instance(s, g[i], g[k]) }
		if !slices.ContainsFunc(these, moreGeneral) {
			return i
		}
	}
	return -1
}

// citing lets steps cite, from the first one on, and tells after each of them
// what all steps say, step by step.
func citing(s api.Sign, g []api.Term, p []api.Step) ([]api.Step, api.Errno) {
	p = slices.Clone(p)
	for i, step := range p {
		said, e := told(s, g, p)
		if e != api.OK {
			return nil, e
		}
		if k := widest(s, g, said[i]); step.Kind == api.SDetach && k >= 0 {
			p[i] = sample.Cite(k)
		}
	}
	return p, api.OK
}

// told tells by detachments what all steps of a proof say.
func told(s api.Sign, g []api.Term, p []api.Step) ([]api.Term, api.Errno) {
	said := []api.Term{}
	for _, step := range p {
		if step.Kind == api.SCite {
			said = append(said, sample.Form(g[step.A]))
			continue
		}
		t, e := kernel.Detach(s, said[step.A], said[step.B])
		if e != api.OK {
			return nil, api.ErrProof
		}
		said = append(said, t)
	}
	return said, api.OK
}

// comings returns how often each step comes in the tree of a step, by a walk
// through this whole tree.
func comings(p []api.Step, top int) []int {
	times := make([]int, len(p))
	var walk func(i int)
	walk = func(i int) {
		times[i]++
		if p[i].Kind == api.SDetach {
			walk(p[i].A)
			walk(p[i].B)
		}
	}
	walk(top)
	return times
}

func sum(list []int) int {
	n := 0
	for _, x := range list {
		n += x
	}
	return n
}

func sameLists(a, b [][]int) bool {
	return slices.EqualFunc(a, b, func(x, y []int) bool { return slices.Equal(x, y) })
}

func sameTerms(a, b []api.Term) bool {
	return slices.EqualFunc(a, b, func(x, y api.Term) bool { return slices.Equal(x, y) })
}
