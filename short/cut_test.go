package short_test

import (
	"math"
	"slices"
	"testing"

	"lemmary/api"
	"lemmary/kernel"
	"lemmary/sample"
	"lemmary/short"
)

// 7.3, the chapter's example first.
func TestCut(t *testing.T) {
	c, d := sample.Cite, sample.Detach
	long := []api.Step{c(0), c(1), c(0), d(0, 2), c(2), d(3, 3), d(5, 2)}
	tests := []struct {
		p           []api.Step
		i           int
		lemma, rest []api.Step
		e           api.Errno
	}{
		{sample.Identity(), 2, []api.Step{c(1), c(0), d(0, 1)}, []api.Step{c(0), c(3), d(1, 0)}, api.OK},
		{sample.Identity(), 0, []api.Step{c(1)}, []api.Step{c(3), c(0), d(0, 1), d(2, 1)}, api.OK},
		{sample.Identity(), 1, []api.Step{c(0)}, []api.Step{c(1), c(3), d(0, 1), d(2, 1)}, api.OK},
		{sample.Doubling(4), 2, sample.Doubling(3), []api.Step{c(3), d(0, 0)}, api.OK},
		{sample.Doubling(60), 58, sample.Doubling(59), []api.Step{c(3), d(0, 0)}, api.OK},
		{sample.Doubling(60), 0, []api.Step{c(0)}, append([]api.Step{c(3)}, sample.Doubling(60)[1:]...), api.OK},
		{long, 0, []api.Step{c(0)}, []api.Step{c(3), c(0), d(0, 1), d(2, 2), d(3, 1)}, api.OK},
		{long, 2, []api.Step{c(0)}, []api.Step{c(0), c(3), d(0, 1), d(2, 2), d(3, 1)}, api.OK},
		{long, 3, []api.Step{c(0), c(0), d(0, 1)}, []api.Step{c(0), c(3), d(1, 1), d(2, 0)}, api.OK},
		{long, 5, []api.Step{c(0), c(0), d(0, 1), d(2, 2)}, []api.Step{c(0), c(3), d(1, 0)}, api.OK},
		{long, 1, nil, nil, api.ErrState}, {long, 4, nil, nil, api.ErrState}, {long, 6, nil, nil, api.ErrState},
		{[]api.Step{c(2)}, 0, nil, nil, api.ErrState}, {sample.Identity(), 3, nil, nil, api.ErrState},
		{long, -1, nil, nil, api.ErrRange}, {long, 7, nil, nil, api.ErrRange}, {long, math.MinInt, nil, nil, api.ErrRange}, {long, math.MaxInt, nil, nil, api.ErrRange},
	}
	for _, test := range tests {
		lemma, rest, e := short.Cut(3, test.p, test.i)
		if e != test.e || !slices.Equal(lemma, test.lemma) || !slices.Equal(rest, test.rest) {
			t.Errorf("Cut(%v, %d) = %v, %v, %d", test.p, test.i, lemma, rest, e)
		}
	}
}

// 7.3: up to MaxList - 1 givens, where the further one has the last index that a
// given may have. ErrLimit comes last.
func TestCutLimit(t *testing.T) {
	c, d := sample.Cite, sample.Detach
	p := []api.Step{c(0), c(1), d(1, 1)}
	if lemma, rest, e := short.Cut(59, p, 1); e != api.OK || !slices.Equal(lemma, []api.Step{c(1)}) || !slices.Equal(rest, []api.Step{c(59), d(0, 0)}) {
		t.Errorf("Cut of 59 givens = %v, %v, %d", lemma, rest, e)
	}
	for i, want := range map[int]api.Errno{1: api.ErrLimit, 0: api.ErrState, 2: api.ErrState, 3: api.ErrRange, -1: api.ErrRange} {
		if lemma, rest, e := short.Cut(60, p, i); e != want || len(lemma)+len(rest) > 0 {
			t.Errorf("Cut(60, %v, %d) = %v, %v, %d", p, i, lemma, rest, e)
		}
		if lemma, rest, e := short.Cut(61, p, i); e != api.ErrInvalid || len(lemma)+len(rest) > 0 {
			t.Errorf("Cut(61, %v, %d) = %v, %v, %d", p, i, lemma, rest, e)
		}
	}
}

// 7.3, P7.4: by all small proofs and random ones, at each step.
func TestCutAndInlined(t *testing.T) {
	shapes(2000, 14, func(givens int, p []api.Step) {
		times := comings(p, len(p)-1)
		tree, _ := kernel.Tree(givens, p)
		for i := range p {
			lemma, rest, e := short.Cut(givens, p, i)
			if times[i] == 0 || i == len(p)-1 {
				if e != api.ErrState || len(lemma)+len(rest) > 0 {
					t.Errorf("Cut(%v, %d) = %v, %v, %d", p, i, lemma, rest, e)
				}
				continue
			}
			whole := slices.Clone(p)
			whole[i] = sample.Cite(givens)
			if e != api.OK || !slices.Equal(lemma, trimmed(p[:i+1])) || !slices.Equal(rest, trimmed(whole)) {
				t.Fatalf("Cut(%v, %d) = %v, %v, %d", p, i, lemma, rest, e)
			}
			q, e := short.Inlined(givens, lemma, rest)
			if again, f := kernel.Tree(givens, q); e != api.OK || f != api.OK || again != tree {
				t.Errorf("Cut(%v, %d) = %v, %v, inlined %v, %d", p, i, lemma, rest, q, e)
			}
		}
	})
}

// P7.4: what is said, where the lemma's statement is the further given.
func TestCutSays(t *testing.T) {
	cuts := 0
	proofs(1000, 12, func(s api.Sign, g []api.Term, p []api.Step) {
		want, _ := kernel.Says(s, g, p)
		for i := range p {
			lemma, rest, e := short.Cut(len(g), p, i)
			if e != api.OK {
				continue
			}
			cuts++
			u, e := kernel.Says(s, g, lemma)
			v, f := kernel.Says(s, append(slices.Clone(g), u), rest)
			if e != api.OK || f != api.OK || !slices.Equal(v, want) {
				t.Errorf("%v says %v; its lemma %v says %v, the rest %v says %v", p, want, lemma, u, rest, v)
			}
			q, e := short.Inlined(len(g), lemma, rest)
			if w, f := kernel.Says(s, g, q); e != api.OK || f != api.OK || !slices.Equal(w, want) {
				t.Errorf("%v says %v; %v inlined in %v says %v, %d", p, want, lemma, rest, w, e)
			}
		}
	})
	if cuts < 1000 {
		t.Errorf("only %d cuts", cuts)
	}
}

// 7.3
func TestInlined(t *testing.T) {
	c, d := sample.Cite, sample.Detach
	lemma := []api.Step{c(1), c(0), d(0, 1)}
	tests := []struct{ lemma, rest, want []api.Step }{
		{lemma, []api.Step{c(0), c(3), d(1, 0)}, append(slices.Clone(lemma), c(0), d(2, 3))},
		{lemma, []api.Step{c(3)}, lemma}, {lemma, []api.Step{c(0), d(0, 0), c(3)}, lemma}, {lemma, []api.Step{c(3), d(0, 0), c(3)}, lemma},
		{lemma, []api.Step{c(2)}, append(slices.Clone(lemma), c(2))},
		{lemma, []api.Step{c(2), d(0, 0)}, append(slices.Clone(lemma), c(2), d(3, 3))},
		{lemma, []api.Step{c(3), c(3), d(0, 1), d(2, 0), d(1, 3)}, append(slices.Clone(lemma), d(2, 2), d(3, 2), d(2, 4))},
		{lemma, []api.Step{c(2), c(3), c(3), d(1, 0), c(3), d(3, 4)}, append(slices.Clone(lemma), c(2), d(2, 3), d(4, 2))},
		{lemma, []api.Step{c(2), c(3), d(0, 0), c(1)}, append(slices.Clone(lemma), c(2), d(3, 3), c(1))},
		{[]api.Step{c(0), c(2)}, []api.Step{c(1), c(3), d(1, 1), d(2, 0)}, []api.Step{c(0), c(2), c(1), d(1, 1), d(3, 2)}},
		{[]api.Step{c(2)}, []api.Step{c(3), d(0, 0)}, []api.Step{c(2), d(0, 0)}},
	}
	for _, test := range tests {
		if p, e := short.Inlined(3, test.lemma, test.rest); e != api.OK || !slices.Equal(p, test.want) {
			t.Errorf("Inlined(%v, %v) = %v, %d", test.lemma, test.rest, p, e)
		}
	}
}

// inlined puts a lemma back step by step: citations of it go one after the other.
func inlined(givens int, lemma, rest []api.Step) []api.Step {
	p := append(slices.Clone(lemma), behind(len(lemma), rest)...)
	for i := len(lemma); i < len(p); i++ {
		if p[i] != sample.Cite(givens) {
			continue
		}
		if i == len(p)-1 {
			return lemma
		}
		p = without(p, i, len(lemma)-1)
		i--
	}
	return p
}

// 7.3: by random lemmas and rests, whether or not these cite the further given.
func TestInlinedRandom(t *testing.T) {
	var d sample.Dice
	any := func(p []api.Step) bool { return true }
	found := map[api.Errno]int{}
	for range 3000 {
		lemma, rest := d.Proof(3, 1+d.Roll(60), any), d.Proof(3+d.Roll(2), 1+d.Roll(60), any)
		want, e := inlined(3, lemma, rest), api.OK
		if len(want) > api.MaxSteps {
			want, e = nil, api.ErrLimit
		}
		if p, f := short.Inlined(3, lemma, rest); f != e || !slices.Equal(p, want) {
			t.Errorf("Inlined(%v, %v) = %v, %d", lemma, rest, p, f)
		}
		found[e]++
	}
	if found[api.OK] < 500 || found[api.ErrLimit] < 500 {
		t.Errorf("%v", found)
	}
}

// 7.3: ErrLimit, where the steps that go do not count.
func TestInlinedLimit(t *testing.T) {
	c, d := sample.Cite, sample.Detach
	for steps := 1; steps <= 60; steps++ {
		for more := 1; more <= 60; more++ {
			rest := append([]api.Step{c(1)}, sample.Doubling(more)[1:]...) // cites the lemma first
			p, e := short.Inlined(1, sample.Doubling(steps), rest)
			want, limit := sample.Doubling(max(1, min(60, steps+more-1))), api.OK
			if steps+more-1 > 60 {
				want, limit = nil, api.ErrLimit
			}
			if e != limit || !slices.Equal(p, want) {
				t.Fatalf("Inlined of %d and %d steps = %v, %d", steps, more, p, e)
			}
		}
	}
	full := sample.Doubling(60)
	tests := []struct {
		lemma, rest []api.Step
		e           api.Errno
	}{
		{full, []api.Step{c(1)}, api.OK}, {full, append(sample.Doubling(59), c(1)), api.OK}, {full, slices.Repeat([]api.Step{c(1)}, 60), api.OK},
		{full, []api.Step{c(0)}, api.ErrLimit}, {full, []api.Step{c(1), d(0, 0)}, api.ErrLimit}, {full[:59], []api.Step{c(1), c(1), d(0, 1)}, api.OK},
		{full[:59], []api.Step{c(0), d(0, 0)}, api.ErrLimit}, {full[:59], append(slices.Repeat([]api.Step{c(1)}, 59), d(58, 0)), api.OK},
	}
	for _, test := range tests {
		if p, e := short.Inlined(1, test.lemma, test.rest); e != test.e || (e == api.OK) != (len(p) > 0) {
			t.Errorf("Inlined(%v, %v) = %v, %d", test.lemma, test.rest, p, e)
		}
	}
}

// 7.3: ErrInvalid of the number of givens and of the lemma, then ErrLimit of
// MaxList givens, then ErrInvalid of the rest, then ErrLimit of the steps.
func TestInlinedErrors(t *testing.T) {
	c, d := sample.Cite, sample.Detach
	right, wrong, full := []api.Step{c(0)}, []api.Step{c(61)}, sample.Doubling(60)
	tests := []struct {
		givens      int
		lemma, rest []api.Step
		e           api.Errno
	}{
		{-1, right, right, api.ErrInvalid}, {61, right, right, api.ErrInvalid}, {math.MinInt, right, right, api.ErrInvalid}, {math.MaxInt, right, right, api.ErrInvalid},
		{0, right, right, api.ErrInvalid}, {1, []api.Step{c(1)}, right, api.ErrInvalid}, {60, wrong, right, api.ErrInvalid}, {60, nil, right, api.ErrInvalid},
		{60, right, right, api.ErrLimit}, {60, right, wrong, api.ErrLimit}, {60, full, nil, api.ErrLimit}, {60, []api.Step{c(59)}, []api.Step{c(60)}, api.ErrLimit},
		{59, right, wrong, api.ErrInvalid}, {59, right, []api.Step{c(60)}, api.ErrInvalid}, {59, []api.Step{c(59)}, right, api.ErrInvalid}, {59, right, []api.Step{c(59)}, api.OK},
		{1, full, []api.Step{c(2), d(0, 0)}, api.ErrInvalid}, {1, full, []api.Step{c(1), d(0, 1)}, api.ErrInvalid}, {1, full, nil, api.ErrInvalid}, {1, right, sample.Doubling(61), api.ErrInvalid},
		{1, full, []api.Step{c(1), d(0, 0)}, api.ErrLimit},
	}
	for _, test := range tests {
		if p, e := short.Inlined(test.givens, test.lemma, test.rest); e != test.e || (e == api.OK) != (len(p) > 0) {
			t.Errorf("Inlined(%d, %v, %v) = %v, %d, not %d", test.givens, test.lemma, test.rest, p, e, test.e)
		}
	}
}

// 7.3: steps that are not needed cite, too.
func TestUnusedDropped(t *testing.T) {
	c, d := sample.Cite, sample.Detach
	tests := []struct {
		givens       int
		p            []api.Step
		unused, stay []int
		dropped      []api.Step
	}{
		{2, sample.Identity(), nil, []int{0, 1}, sample.Identity()},
		{1, []api.Step{c(0)}, nil, []int{0}, []api.Step{c(0)}},
		{4, []api.Step{c(2)}, []int{0, 1, 3}, []int{2}, []api.Step{c(0)}},
		{4, []api.Step{c(3), c(1)}, []int{0, 2}, []int{1, 3}, []api.Step{c(1), c(0)}},
		{5, []api.Step{c(4), c(2), d(0, 1), c(0), c(4), d(2, 3)}, []int{1, 3}, []int{0, 2, 4}, []api.Step{c(2), c(1), d(0, 1), c(0), c(2), d(2, 3)}},
		{60, append(sample.Doubling(59), c(59)), indexes(1, 58), []int{0, 59}, append(sample.Doubling(59), c(1))},
		{60, sample.Doubling(60), indexes(1, 59), []int{0}, sample.Doubling(60)},
	}
	for _, test := range tests {
		if l, e := short.Unused(test.givens, test.p); e != api.OK || !slices.Equal(l, test.unused) {
			t.Errorf("Unused(%d, %v) = %v, %d", test.givens, test.p, l, e)
		}
		if p, l, e := short.Dropped(test.givens, test.p); e != api.OK || !slices.Equal(l, test.stay) || !slices.Equal(p, test.dropped) {
			t.Errorf("Dropped(%d, %v) = %v, %v, %d", test.givens, test.p, p, l, e)
		}
	}
}

// indexes returns the numbers from one to another one.
func indexes(from, to int) []int {
	l := []int{}
	for i := from; i <= to; i++ {
		l = append(l, i)
	}
	return l
}

// 7.3, P7.6: a dropped proof, moved by the givens that stay, is the proof; all of
// these are cited, and all others are unused.
func TestDroppedMoved(t *testing.T) {
	var d sample.Dice
	check := func(givens int, p []api.Step) {
		dropped, stay, e := short.Dropped(givens, p)
		moved, f := kernel.Moved(len(stay), dropped, stay, givens)
		if e != api.OK || f != api.OK || !slices.Equal(moved, p) {
			t.Errorf("Dropped(%d, %v) = %v, %v, %d, moved %v, %d", givens, p, dropped, stay, e, moved, f)
		}
		unused, e := short.Unused(givens, p)
		both := slices.Sorted(slices.Values(slices.Concat(unused, stay)))
		if e != api.OK || !slices.IsSorted(unused) || !slices.IsSorted(stay) || !slices.Equal(both, indexes(0, givens-1)) {
			t.Errorf("Unused(%d, %v) = %v, %d, but %v stay", givens, p, unused, e, stay)
		}
		if again, e := short.Unused(len(stay), dropped); e != api.OK || len(again) != 0 {
			t.Errorf("Dropped(%d, %v) = %v, %v with the unused %v, %d", givens, p, dropped, stay, again, e)
		}
	}
	shapes(1000, 14, check)
	for range 1000 {
		givens := 1 + d.Roll(60)
		check(givens, d.Proof(givens, 1+d.Roll(60), func(p []api.Step) bool { return true }))
	}
}
