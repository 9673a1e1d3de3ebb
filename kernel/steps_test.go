package kernel_test

import (
	"math"
	"slices"
	"testing"

	"lemmary/api"
	"lemmary/kernel"
	"lemmary/sample"
)

// below calls visit with each step of the tree of a step, as often as it is
// copied there, and with its height in the tree.
func below(p []api.Step, i int, visit func(i, down int)) {
	var walk func(i, down int)
	walk = func(i, down int) {
		visit(i, down)
		if p[i].Kind == api.SDetach {
			walk(p[i].A, down+1)
			walk(p[i].B, down+1)
		}
	}
	walk(i, 1)
}

// 4.3, the chapter's example among others.
func TestNeededCitedCountHeight(t *testing.T) {
	c, d := sample.Cite, sample.Detach
	tests := []struct {
		p             []api.Step
		needed, cited []int
		count, height int
	}{
		{sample.Identity(), []int{0, 1, 2, 3}, []int{0, 1}, 5, 3},
		{[]api.Step{c(2)}, []int{0}, []int{2}, 1, 1},
		{[]api.Step{c(2), c(0)}, []int{1}, []int{0}, 1, 1},
		{[]api.Step{c(2), c(0), d(0, 0), c(1)}, []int{3}, []int{1}, 1, 1},
		{[]api.Step{c(2), c(1), c(0), c(1), d(3, 1), d(0, 4), d(4, 4)}, []int{1, 3, 4, 6}, []int{1}, 7, 3},
		{[]api.Step{c(2), c(0), d(1, 0), c(0), d(2, 3)}, []int{0, 1, 2, 3, 4}, []int{0, 2}, 5, 3},
		{[]api.Step{c(0), d(0, 0), d(0, 1), d(2, 0)}, []int{0, 1, 2, 3}, []int{0}, 7, 4},
		{sample.Doubling(15), nil, []int{0}, 1<<15 - 1, 15},
	}
	for _, test := range tests {
		if test.needed == nil {
			for i := range test.p {
				test.needed = append(test.needed, i)
			}
		}
		if l, e := kernel.Needed(3, test.p); e != api.OK || !slices.Equal(l, test.needed) {
			t.Errorf("Needed(%v) = %v, %d", test.p, l, e)
		}
		if l, e := kernel.Cited(3, test.p); e != api.OK || !slices.Equal(l, test.cited) {
			t.Errorf("Cited(%v) = %v, %d", test.p, l, e)
		}
		if n, e := kernel.Count(3, test.p); e != api.OK || n != test.count {
			t.Errorf("Count(%v) = %d, %d", test.p, n, e)
		}
		if n, e := kernel.Height(3, test.p); e != api.OK || n != test.height {
			t.Errorf("Height(%v) = %d, %d", test.p, n, e)
		}
	}
}

// 4.3: random proofs, against a walk through the whole tree.
func TestRandomTrees(t *testing.T) {
	shapes(3000, 12, func(p []api.Step) {
		needed, cited := make([]bool, len(p)), make([]bool, 3)
		count, height := 0, 0
		below(p, len(p)-1, func(i, down int) {
			count++
			height = max(height, down)
			needed[i] = true
			if p[i].Kind == api.SCite {
				cited[p[i].A] = true
			}
		})
		l, e1 := kernel.Needed(3, p)
		m, e2 := kernel.Cited(3, p)
		n, e3 := kernel.Count(3, p)
		h, e4 := kernel.Height(3, p)
		if e1+e2+e3+e4 != api.OK || !slices.Equal(l, indexes(needed)) || !slices.Equal(m, indexes(cited)) || n != count || h != height {
			t.Errorf("%v: %v, %v, %d, %d", p, l, m, n, h)
		}
	})
}

// indexes returns the indexes of what is true.
func indexes(list []bool) []int {
	l := []int{}
	for i, is := range list {
		if is {
			l = append(l, i)
		}
	}
	return l
}

// 4.3: Count up to MaxCount. A step that detaches adds up the citations of its
// two steps, so that 5^15 * 2^14 of them, which have the count MaxCount - 1,
// need just MaxSteps steps.
func TestCountLimit(t *testing.T) {
	p := sample.Doubling(15)
	for range 15 {
		last := len(p) - 1
		p = append(p, sample.Detach(last, last), sample.Detach(last+1, last+1), sample.Detach(last, last+2))
	}
	if n, e := kernel.Count(1, p); len(p) != api.MaxSteps || n != api.MaxCount-1 || e != api.OK {
		t.Errorf("Count of %d steps = %d, %d", len(p), n, e)
	}
	for steps := 1; steps <= api.MaxSteps; steps++ {
		want, wrong := 1<<steps-1, api.Errno(api.OK)
		if steps >= 50 {
			want, wrong = 0, api.ErrLimit
		}
		p := sample.Doubling(steps)
		if n, e := kernel.Count(1, p); n != want || e != wrong {
			t.Errorf("Count of %d doubling steps = %d, %d", steps, n, e)
		}
		if h, e := kernel.Height(1, p); h != steps || e != api.OK {
			t.Errorf("Height of %d doubling steps = %d, %d", steps, h, e)
		}
		if l, e := kernel.Needed(1, p); len(l) != steps || e != api.OK {
			t.Errorf("Needed of %d doubling steps = %v, %d", steps, l, e)
		}
		if steps < api.MaxSteps {
			if n, e := kernel.Count(1, append(p, sample.Cite(0))); n != 1 || e != api.OK {
				t.Errorf("Count of a citation behind %d doubling steps = %d, %d", steps, n, e)
			}
		}
	}
}

// 4.4
func TestJoined(t *testing.T) {
	c, d := sample.Cite, sample.Detach
	tests := []struct{ p, q, want []api.Step }{
		{[]api.Step{c(1)}, []api.Step{c(0)}, []api.Step{c(1), c(0), d(0, 1)}},
		{[]api.Step{c(1)}, []api.Step{c(1)}, []api.Step{c(1), c(1), d(0, 1)}},
		{[]api.Step{c(1), c(0), d(0, 1)}, []api.Step{c(0)}, []api.Step{c(1), c(0), d(0, 1), c(0), d(2, 3)}},
		{[]api.Step{c(0), c(2)}, []api.Step{c(1), c(2), d(1, 0), c(0), d(3, 2)}, []api.Step{c(0), c(2), c(1), c(2), d(3, 2), c(0), d(5, 4), d(1, 6)}},
	}
	for _, test := range tests {
		if p, e := kernel.Joined(3, test.p, test.q); e != api.OK || !slices.Equal(p, test.want) {
			t.Errorf("Joined(%v, %v) = %v, %d", test.p, test.q, p, e)
		}
	}
	for i := 1; i <= 60; i++ {
		for k := 1; k <= 60; k++ {
			p, e := kernel.Joined(1, sample.Doubling(i), sample.Doubling(k))
			if i+k+1 <= 60 && (e != api.OK || len(p) != i+k+1 || !kernel.ValidProof(1, p)) || i+k+1 > 60 && (e != api.ErrLimit || len(p) != 0) {
				t.Fatalf("Joined of %d and %d steps: %v, %d", i, k, p, e)
			}
		}
	}
}

// P4.5: joined proofs say the detachment of what both say.
func TestJoinedSay(t *testing.T) {
	var d sample.Dice
	done := map[api.Errno]int{}
	proofs(1000, 8, func(s api.Sign, g []api.Term, p []api.Step) {
		q := d.Proof(len(g), 8, func(q []api.Step) bool { return isGood(s, g, q) })
		both, e := kernel.Joined(len(g), p, q)
		if e != api.OK {
			t.Fatalf("Joined(%v, %v): %d", p, q, e)
		}
		m, _ := kernel.Says(s, g, p)
		n, _ := kernel.Says(s, g, q)
		want, e := detached(s, m, n)
		u, f := kernel.Says(s, g, both)
		if f != e || !slices.Equal(u, want) {
			t.Errorf("%v joined with %v says %v, %d", p, q, u, f)
		}
		done[e]++
	})
	if done[api.OK] < 200 || done[api.ErrNone] < 100 {
		t.Errorf("%v", done)
	}
}

// 4.4: also where two givens are moved to the same one, and all numbers of to
// are looked at, cited or not.
func TestMoved(t *testing.T) {
	c, d := sample.Cite, sample.Detach
	p := []api.Step{c(1), c(0), d(0, 1), c(2), d(1, 2)}
	tests := []struct {
		to    []int
		count int
		want  []api.Step
		e     api.Errno
	}{
		{[]int{0, 1, 2}, 3, p, api.OK},
		{[]int{2, 0, 1}, 3, []api.Step{c(0), c(2), d(0, 1), c(1), d(1, 2)}, api.OK},
		{[]int{59, 59, 58}, 60, []api.Step{c(59), c(59), d(0, 1), c(58), d(1, 2)}, api.OK},
		{[]int{0, 0, 0}, 1, []api.Step{c(0), c(0), d(0, 1), c(0), d(1, 2)}, api.OK},
		{nil, 3, nil, api.ErrSize}, {[]int{0, 1}, 3, nil, api.ErrSize}, {[]int{0, 1, 2, 3}, 4, nil, api.ErrSize}, {make([]int, 100000), 3, nil, api.ErrSize},
		{[]int{0, 1, 2}, 2, nil, api.ErrRange}, {[]int{0, 1, -1}, 3, nil, api.ErrRange}, {[]int{math.MinInt, 1, 2}, 3, nil, api.ErrRange}, {[]int{0, math.MaxInt, 2}, 3, nil, api.ErrRange},
		{[]int{0, 1, 2}, 61, nil, api.ErrRange}, {[]int{0, 1, 2}, -1, nil, api.ErrRange}, {[]int{0, 0, 0}, 0, nil, api.ErrRange}, {[]int{0, 1, 2}, math.MaxInt, nil, api.ErrRange}, {[]int{0, 1, 60}, 61, nil, api.ErrRange},
		{[]int{0, 1}, 61, nil, api.ErrSize}, {[]int{-1, 1, 2, 3}, 3, nil, api.ErrSize}, {nil, -1, nil, api.ErrSize},
	}
	for _, test := range tests {
		if moved, e := kernel.Moved(3, p, test.to, test.count); e != test.e || !slices.Equal(moved, test.want) {
			t.Errorf("Moved(%v, %d) = %v, %d", test.to, test.count, moved, e)
		}
	}
	if moved, e := kernel.Moved(3, p[:2], []int{0, 1, 2}, 2); e != api.ErrRange || len(moved) != 0 {
		t.Errorf("Moved of a given that is not cited = %v, %d", moved, e)
	}
	if moved, e := kernel.Moved(3, p[:2], []int{1, 0, 1}, 2); e != api.OK || !slices.Equal(moved, []api.Step{c(0), c(1)}) {
		t.Errorf("Moved to fewer givens = %v, %d", moved, e)
	}
}

// P4.5: moved proofs say of moved givens what the proofs say.
func TestMovedSay(t *testing.T) {
	var d sample.Dice
	proofs(1000, 8, func(s api.Sign, g []api.Term, p []api.Step) {
		count := len(g) + d.Roll(5)
		h, to := make([]api.Term, count), []int{}
		for i := range h {
			h[i] = d.Term(s, 6, 3)
		}
		free := slices.Clone(h)
		for i, u := range g {
			k := d.Roll(count)
			for slices.Contains(to, k) {
				k = d.Roll(count)
			}
			if same := slices.IndexFunc(g[:i], func(v api.Term) bool { return slices.Equal(u, v) }); same >= 0 {
				k = to[same]
			}
			to = append(to, k)
			free[k] = u
		}
		moved, e := kernel.Moved(len(g), p, to, count)
		want, i, _ := kernel.Run(s, g, p)
		said, k, _ := kernel.Run(s, free, moved)
		if e != api.OK || i != k || !sameTerms(said, want) {
			t.Errorf("Moved(%v, %v) = %v, %d: %v, not %v", p, to, moved, e, said, want)
		}
	})
}
