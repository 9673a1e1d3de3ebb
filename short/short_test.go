package short_test

import (
	"slices"
	"testing"

	"lemmary/api"
	"lemmary/kernel"
	"lemmary/sample"
	"lemmary/short"
)

// bad holds proofs for the givens K, S, N x0 and x0 that are valid and have a
// step that says nothing, needed or not, for each reason that there is.
func bad() [][]api.Step {
	c, d := sample.Cite, sample.Detach
	great := []api.Step{c(0)}
	for i := range 11 { // one variable more each time
		great = append(great, d(0, i))
	}
	return [][]api.Step{
		{c(2), d(0, 0)}, {c(3), c(0), d(0, 1)}, {c(2), c(0), d(0, 1), d(1, 1)}, {c(1), c(2), d(0, 1), c(0)}, {c(2), c(2), d(0, 1), d(0, 1)},
		great, append(great, c(0)),
	}
}

func badGivens() []api.Term {
	return append(ks(), api.Term{1, -1}, api.Term{-1})
}

// 7.1
func TestGood(t *testing.T) {
	s := sample.Sign()
	for _, p := range [][]api.Step{example(), sample.Identity(), {sample.Cite(3)}, sample.Doubling(3), bad()[5][:11]} {
		if !short.Good(s, badGivens(), p) {
			t.Errorf("Good(%v) is false", p)
		}
	}
	for _, p := range bad() {
		if !kernel.ValidProof(4, p) || short.Good(s, badGivens(), p) {
			t.Errorf("Good(%v)", p)
		}
	}
	if short.Good(s, nil, []api.Step{sample.Cite(0)}) || short.Good(s, nil, nil) {
		t.Error("Good without givens")
	}
	good, all := 0, 0
	shapes(0, 1, func(givens int, p []api.Step) {
		is := short.Good(s, ks(), p)
		if is != isGood(s, ks(), p) {
			t.Errorf("Good(%v) = %t", p, is)
		}
		if all++; is {
			good++
		}
	})
	if good < 100 || all-good < 100 {
		t.Errorf("%d of %d proofs are good", good, all)
	}
}

// 7.1: ErrProof of all functions for proofs that must be good.
func TestErrProof(t *testing.T) {
	s, g, p := sample.Sign(), badGivens(), sample.Identity()
	for _, q := range bad() {
		for name, f := range map[string]func(s api.Sign, g []api.Term, p []api.Step) ([]api.Step, api.Errno){"Merged": short.Merged, "Citing": short.Citing, "Shortest": short.Shortest} {
			if r, e := f(s, g, q); e != api.ErrProof || len(r) != 0 {
				t.Errorf("%s(%v) = %v, %d", name, q, r, e)
			}
		}
		if l, e := short.Repeated(s, g, q); e != api.ErrProof || len(l) != 0 {
			t.Errorf("Repeated(%v) = %v, %d", q, l, e)
		}
		if n, e := short.Weight(s, g, q); e != api.ErrProof || n != 0 {
			t.Errorf("Weight(%v) = %d, %d", q, n, e)
		}
		for _, pair := range [][2][]api.Step{{p, q}, {q, p}, {q, q}} {
			if l, e := short.Common(s, g, pair[0], pair[1]); e != api.ErrProof || len(l) != 0 {
				t.Errorf("Common(%v) = %v, %d", pair, l, e)
			}
			if is, e := short.Better(s, g, pair[0], pair[1]); e != api.ErrProof || is {
				t.Errorf("Better(%v) = %t, %d", pair, is, e)
			}
		}
	}
}

// 7.1
func TestTrimmed(t *testing.T) {
	c, d := sample.Cite, sample.Detach
	tests := []struct{ p, want []api.Step }{
		{example(), example()},
		{[]api.Step{c(1)}, []api.Step{c(1)}},
		{[]api.Step{c(0), c(1)}, []api.Step{c(1)}},
		{[]api.Step{c(0), d(0, 0), c(1)}, []api.Step{c(1)}},
		{[]api.Step{c(0), c(1), c(2), d(2, 2), d(1, 1)}, []api.Step{c(1), d(0, 0)}},
		{[]api.Step{c(2), c(1), c(0), c(1), d(3, 1), d(0, 4), d(4, 4)}, []api.Step{c(1), c(1), d(1, 0), d(2, 2)}},
		{append(sample.Doubling(59), c(2)), []api.Step{c(2)}},
		{append([]api.Step{c(2)}, behind(1, sample.Doubling(59))...), sample.Doubling(59)},
		{sample.Doubling(60), sample.Doubling(60)},
	}
	for _, test := range tests {
		if p, e := short.Trimmed(3, test.p); e != api.OK || !slices.Equal(p, test.want) {
			t.Errorf("Trimmed(%v) = %v, %d", test.p, p, e)
		}
	}
}

// behind returns steps as they are behind so many others.
func behind(count int, p []api.Step) []api.Step {
	l := []api.Step{}
	for _, step := range p {
		if step.Kind == api.SDetach {
			step = sample.Detach(step.A+count, step.B+count)
		}
		l = append(l, step)
	}
	return l
}

// 7.1, P7.2: all steps of a trimmed proof are needed, and it has the same tree.
func TestTrimmedShapes(t *testing.T) {
	fewer := 0
	shapes(2000, 14, func(givens int, p []api.Step) {
		q, e := short.Trimmed(givens, p)
		if e != api.OK || !slices.Equal(q, trimmed(p)) {
			t.Fatalf("Trimmed(%v) = %v, %d", p, q, e)
		}
		tree, _ := kernel.Tree(givens, p)
		if again, _ := kernel.Tree(givens, q); again != tree {
			t.Errorf("%v trimmed is %v with the tree %q", p, q, again)
		}
		needed, _ := kernel.Needed(givens, q)
		again, _ := short.Trimmed(givens, q)
		if len(needed) != len(q) || !slices.Equal(again, q) {
			t.Errorf("Trimmed(%v) = %v, trimmed %v", p, q, again)
		}
		if len(q) < len(p) {
			fewer++
		}
	})
	if fewer < 1000 {
		t.Errorf("only %d proofs are trimmed", fewer)
	}
}

// 7.1, the chapter's example first. The given 2 is alike K, and C x0 x0 comes
// from K and S as well as from the given 3.
func TestMergedShortest(t *testing.T) {
	c, d := sample.Cite, sample.Detach
	s := sample.Sign()
	g := append(ks(), api.Term{0, -9, 0, -1, -9}, api.Term{0, -4, -4})
	tests := []struct{ p, merged, shortest []api.Step }{
		{example(), []api.Step{c(1), c(0), d(0, 1), d(2, 1)}, sample.Identity()},
		{[]api.Step{c(0)}, []api.Step{c(0)}, []api.Step{c(0)}},
		{[]api.Step{c(0), c(0)}, []api.Step{c(0)}, []api.Step{c(0)}},
		{[]api.Step{c(2), c(0)}, []api.Step{c(2)}, []api.Step{c(2)}},
		{[]api.Step{c(0), c(1), c(2)}, []api.Step{c(0)}, []api.Step{c(0)}},
		{[]api.Step{c(1), c(0), c(1), c(2)}, []api.Step{c(1), c(0)}, []api.Step{c(0)}},
		{[]api.Step{c(0), c(2), d(1, 0), d(0, 1), d(3, 2)}, []api.Step{c(0)}, []api.Step{c(0)}}, // K K, detached from itself, says K
		{[]api.Step{c(0), c(2), d(1, 0), d(0, 1), d(1, 3)}, []api.Step{c(0), d(0, 0), d(0, 1)}, []api.Step{c(0), d(0, 0), d(0, 1)}},
		{append([]api.Step{c(3)}, behind(1, example())...), []api.Step{c(3)}, []api.Step{c(3)}},
		{append(sample.Identity(), c(3)), sample.Identity(), sample.Identity()},
		{append(sample.Identity(), c(3), d(4, 4), d(3, 4)), sample.Identity(), sample.Identity()},
		{append(sample.Identity(), c(2), c(3), d(5, 4), d(5, 5), d(4, 6)), append(sample.Identity(), d(1, 1)), []api.Step{c(0), d(0, 0)}},
	}
	for _, test := range tests {
		if p, e := short.Merged(s, g, test.p); e != api.OK || !slices.Equal(p, test.merged) {
			t.Errorf("Merged(%v) = %v, %d", test.p, p, e)
		}
		if p, e := short.Shortest(s, g, test.p); e != api.OK || !slices.Equal(p, test.shortest) {
			t.Errorf("Shortest(%v) = %v, %d", test.p, p, e)
		}
	}
}

// 7.1, P7.2, P7.6: by random proofs, against one step that goes after the other.
func TestMergedShortestSay(t *testing.T) {
	fewer := map[string]int{}
	proofs(3000, 14, func(s api.Sign, g []api.Term, p []api.Step) {
		want, _ := kernel.Says(s, g, p)
		m, e := short.Merged(s, g, p)
		if e != api.OK || !slices.Equal(m, merged(s, g, p)) {
			t.Fatalf("Merged(%v) of %v = %v, %d", p, g, m, e)
		}
		q, e := short.Shortest(s, g, p)
		if e != api.OK || !slices.Equal(q, trimmed(m)) {
			t.Fatalf("Shortest(%v) of %v = %v, %d", p, g, q, e)
		}
		r, _ := short.Trimmed(len(g), p)
		for _, l := range [][]api.Step{m, q, r} {
			if u, e := kernel.Says(s, g, l); e != api.OK || !slices.Equal(u, want) || len(l) > len(p) {
				t.Errorf("%v says %v, %v says %v, %d", p, want, l, u, e)
			}
		}
		again, _ := short.Merged(s, g, m)
		twice, _ := short.Shortest(s, g, q)
		if !slices.Equal(again, m) || !slices.Equal(twice, q) {
			t.Errorf("%v merged is %v, and then %v; the shortest is %v, and then %v", p, m, again, q, twice)
		}
		if l, e := short.Repeated(s, g, q); e != api.OK || len(l) != 0 {
			t.Errorf("Shortest(%v) = %v, of which %v say the same", p, q, l)
		}
		if len(m) < len(p) {
			fewer["merged"]++
		}
		if len(q) < len(m) && len(q) < len(r) {
			fewer["shortest"]++
		}
	})
	if fewer["merged"] < 1000 || fewer["shortest"] < 300 {
		t.Errorf("%v", fewer)
	}
}
