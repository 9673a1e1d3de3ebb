package short_test

import (
	"math"
	"slices"
	"testing"

	"lemmary/api"
	"lemmary/kernel"
	"lemmary/sample"
	"lemmary/short"
)

// 7.2, the chapter's example first.
func TestTimesSavingBest(t *testing.T) {
	c, d := sample.Cite, sample.Detach
	tests := []struct {
		p             []api.Step
		times, saving []int
		best          int // -1 if there is none
	}{
		{sample.Identity(), []int{1, 2, 1, 1}, []int{0, 0, 0, 0}, -1},
		{example(), []int{1, 1, 1, 1, 1}, []int{0, 0, 0, 0, 0}, -1},
		{[]api.Step{c(2)}, []int{1}, []int{0}, -1},
		{[]api.Step{c(2), d(0, 0), c(0)}, []int{0, 0, 1}, []int{0, 0, 0}, -1},
		{[]api.Step{c(2), d(0, 0), d(0, 1)}, []int{3, 1, 1}, []int{0, 0, 0}, -1},
		{sample.Doubling(4), []int{8, 4, 2, 1}, []int{0, 6, 6, 0}, 1},
		{sample.Doubling(5), []int{16, 8, 4, 2, 1}, []int{0, 14, 18, 14, 0}, 2},
		{[]api.Step{c(0), d(0, 0), d(1, 0), d(0, 0), d(2, 3), d(4, 4), d(0, 1)}, []int{3, 1, 0, 0, 0, 0, 1}, []int{0, 0, 0, 0, 0, 0, 0}, -1},
		{[]api.Step{c(0), d(0, 0), c(1), d(2, 2), d(3, 3), d(1, 1), d(4, 5)}, []int{4, 2, 4, 2, 1, 1, 1}, []int{0, 2, 0, 2, 0, 0, 0}, 1},
		{[]api.Step{c(0), d(0, 0), c(1), d(2, 2), d(3, 3), d(1, 1), d(4, 5), d(6, 3)}, []int{4, 2, 6, 3, 1, 1, 1, 1}, []int{0, 2, 0, 4, 0, 0, 0, 0}, 3},
	}
	for _, test := range tests {
		if times, e := short.Times(3, test.p); e != api.OK || !slices.Equal(times, test.times) {
			t.Errorf("Times(%v) = %v, %d", test.p, times, e)
		}
		for i, want := range test.saving {
			if n, e := short.Saving(3, test.p, i); e != api.OK || n != want {
				t.Errorf("Saving(%v, %d) = %d, %d", test.p, i, n, e)
			}
		}
		checkBest(t, 3, test.p, test.best)
	}
}

// checkBest fails if another step has the greatest saving; -1 is that of none.
func checkBest(t *testing.T, givens int, p []api.Step, want int) {
	t.Helper()
	none := api.OK
	if want < 0 {
		want, none = 0, api.ErrNone
	}
	if i, e := short.Best(givens, p); e != none || i != want {
		t.Errorf("Best(%v) = %d, %d, not %d, %d", p, i, e, want, none)
	}
}

// 7.2, P7.5: by all small proofs and random ones, against a walk through the
// whole tree.
func TestTimesOfShapes(t *testing.T) {
	found := 0
	shapes(3000, 13, func(givens int, p []api.Step) {
		want := comings(p, len(p)-1)
		times, e := short.Times(givens, p)
		if e != api.OK || !slices.Equal(times, want) {
			t.Fatalf("Times(%v) = %v, %d", p, times, e)
		}
		cited, best, most := 0, -1, 0
		for i, step := range p {
			n, e := short.Saving(givens, p, i)
			saving := (want[i] - 1) * (sum(comings(p, i)) - 1)
			if want[i] == 0 {
				saving = 0
			}
			if e != api.OK || n != saving {
				t.Errorf("Saving(%v, %d) = %d, %d, not %d", p, i, n, e, saving)
			}
			if step.Kind == api.SCite {
				cited += times[i]
			}
			if (step.Kind == api.SCite || times[i] == 1) && n != 0 {
				t.Errorf("Saving(%v, %d) = %d", p, i, n)
			}
			if saving > most {
				best, most = i, saving
			}
		}
		checkBest(t, givens, p, best)
		if count, _ := kernel.Count(givens, p); cited != (count+1)/2 {
			t.Errorf("Times(%v) = %v: %d citations of %d steps", p, times, cited, count)
		}
		if best >= 0 {
			found++
		}
	})
	if found < 1000 {
		t.Errorf("only %d proofs have a step that saves", found)
	}
}

// multiplied returns a proof that is so much longer that its last step comes as
// often as the last one of some numbers tells. Each of them is the sum of two
// earlier ones, or of 1.
func multiplied(p []api.Step, numbers ...int) []api.Step {
	one := len(p) - 1
	known := []int{1}
	p = slices.Clone(p)
	for _, n := range numbers {
		a := slices.IndexFunc(known, func(x int) bool { return slices.Contains(known, n-x) })
		p = append(p, sample.Detach(one+a, one+slices.Index(known, n-known[a])))
		known = append(known, n)
	}
	return p
}

// The ways of multiplied to 5^3 and 5^6 that need the fewest steps.
var (
	fives3 = []int{2, 4, 8, 16, 24, 25, 50, 100, 125}
	fives6 = []int{2, 4, 8, 16, 32, 64, 128, 256, 512, 1024, 1280, 1281, 2562, 3586, 7172, 14344, 15625}
)

// doubled returns a proof with the last step twice, so many times.
func doubled(p []api.Step, times int) []api.Step {
	for range times {
		p = multiplied(p, 2)
	}
	return p
}

// and returns a proof with a detachment of its last step and another one.
func and(p []api.Step, i int) []api.Step {
	return append(slices.Clone(p), sample.Detach(len(p)-1, i))
}

// 7.2: a citation that comes MaxCount times, and once more.
func TestTimesLimit(t *testing.T) {
	p := doubled([]api.Step{sample.Cite(0)}, 15)
	p = multiplied(multiplied(multiplied(p, fives6...), fives6...), fives3...)
	times, e := short.Times(1, p)
	if e != api.OK || len(times) != len(p) || times[0] != api.MaxCount {
		t.Errorf("Times of %d steps = %v, %d", len(p), times, e)
	}
	checkSaving(t, p, 0, 0, api.OK)
	checkSaving(t, p, 1, api.MaxCount-2, api.OK)
	checkSaving(t, p, len(p)-1, 0, api.ErrLimit)
	q := and(p, 0)
	if times, e := short.Times(1, q); e != api.ErrLimit || len(times) != 0 {
		t.Errorf("Times of %d steps = %v, %d", len(q), times, e)
	}
	checkSaving(t, q, 0, 0, api.ErrLimit)
	checkSaving(t, q, 1, api.MaxCount-2, api.OK) // its own parts are not too great
	for _, l := range [][]api.Step{p, q} {
		if i, e := short.Best(1, l); e != api.ErrLimit || i != 0 {
			t.Errorf("Best of %d steps = %d, %d", len(l), i, e)
		}
	}
}

func checkSaving(t *testing.T, p []api.Step, i, want int, e api.Errno) {
	t.Helper()
	if n, f := short.Saving(1, p, i); f != e || n != want {
		t.Errorf("Saving of the step %d of %d = %d, %d, not %d, %d", i, len(p), n, f, want, e)
	}
}

// 7.2: a count up to MaxCount, which is even, so that it is MaxCount - 1.
func TestSavingCountLimit(t *testing.T) {
	p := doubled([]api.Step{sample.Cite(0)}, 14)
	p = multiplied(multiplied(multiplied(p, fives6...), fives6...), fives3...)
	if n, e := kernel.Count(1, p); n != api.MaxCount-1 || e != api.OK {
		t.Fatalf("Count = %d, %d", n, e)
	}
	checkSaving(t, p, len(p)-1, 0, api.OK)
	if i, e := short.Best(1, p); e != api.OK || i == 0 {
		t.Errorf("Best of %d steps = %d, %d", len(p), i, e)
	}
	q := and(p, 0)
	checkSaving(t, q, len(p)-1, 0, api.OK)
	checkSaving(t, q, len(p), 0, api.ErrLimit)
	if i, e := short.Best(1, q); e != api.ErrLimit || i != 0 {
		t.Errorf("Best of %d steps = %d, %d", len(q), i, e)
	}
	// What does not come has the saving 0, however great it is.
	q = append(q, sample.Cite(0))
	for i := range q {
		checkSaving(t, q, i, 0, api.OK)
	}
	checkBest(t, 1, q, -1)
}

// 7.2: a step with the saving 2 * 5^6 * 2^7 * 5^9 * 2^7, which is MaxCount, and
// one that comes once more.
func TestSavingProductLimit(t *testing.T) {
	p := and(doubled(multiplied([]api.Step{sample.Cite(0)}, fives6...), 7), 0)
	i := len(p) - 1
	q := doubled(multiplied(multiplied(p, fives6...), fives3...), 7)
	checkSaving(t, and(q, i), i, api.MaxCount, api.OK)
	checkSaving(t, and(q, i+1), i, 0, api.ErrLimit)
	if n, e := kernel.Count(1, and(q, i+1)[:i+1]); e != api.OK || len(and(q, i)) > api.MaxSteps {
		t.Errorf("%d steps, Count = %d, %d", len(and(q, i)), n, e)
	}
	for i := range 60 {
		checkSaving(t, sample.Doubling(60), i, 0, api.ErrLimit)
	}
}

// 7.2: by proofs of many steps. Best is ErrLimit just where some saving is.
func TestSavingGreat(t *testing.T) {
	var d sample.Dice
	found := map[api.Errno]int{}
	for range 2000 {
		p := []api.Step{sample.Cite(0)}
		most, near := 1+d.Roll(60), 1+d.Roll(4)
		for len(p) < most {
			p = append(p, sample.Detach(len(p)-1, max(0, len(p)-1-d.Roll(near))))
		}
		best, greatest, wrong := 0, 0, api.ErrNone
		for i := range p {
			n, e := short.Saving(1, p, i)
			if e != api.OK {
				best, wrong = 0, e
				break
			}
			if n > greatest {
				best, greatest, wrong = i, n, api.OK
			}
		}
		if i, e := short.Best(1, p); i != best || e != wrong {
			t.Errorf("Best(%v) = %d, %d, not %d, %d", p, i, e, best, wrong)
		}
		// A step's copies are all in the tree: its saving is below the whole count.
		if _, e := kernel.Count(1, p); (e == api.ErrLimit) != (wrong == api.ErrLimit) {
			t.Errorf("Best(%v): %d, but Count: %d", p, wrong, e)
		}
		found[wrong]++
	}
	if found[api.OK] < 50 || found[api.ErrLimit] < 20 {
		t.Errorf("%v", found)
	}
}

// 7.2: ErrRange, also ahead of ErrLimit and behind ErrInvalid.
func TestSavingRange(t *testing.T) {
	for _, i := range []int{-1, 60, 61, math.MinInt, math.MaxInt} {
		checkSaving(t, sample.Doubling(60), i, 0, api.ErrRange)
		checkSaving(t, sample.Doubling(61), i, 0, api.ErrInvalid)
	}
	checkSaving(t, sample.Doubling(2), 2, 0, api.ErrRange)
	checkSaving(t, sample.Doubling(2), 1, 0, api.OK)
}

// 7.2
func TestRepeated(t *testing.T) {
	c, d := sample.Cite, sample.Detach
	s := sample.Sign()
	g := append(ks(), api.Term{0, -9, 0, -1, -9}, api.Term{0, -4, -4})
	tests := []struct {
		p    []api.Step
		want [][]int
	}{
		{example(), [][]int{{1, 2}}},
		{sample.Identity(), nil},
		{[]api.Step{c(0)}, nil},
		{[]api.Step{c(0), c(2), c(0)}, [][]int{{0, 1, 2}}},
		{[]api.Step{c(0), c(1), c(3), c(1), c(2)}, [][]int{{0, 4}, {1, 3}}},
		{append(sample.Identity(), c(3), d(4, 4), c(1)), [][]int{{0, 6}, {3, 4, 5}}},
	}
	for _, test := range tests {
		if l, e := short.Repeated(s, g, test.p); e != api.OK || !sameLists(l, test.want) {
			t.Errorf("Repeated(%v) = %v, %d", test.p, l, e)
		}
	}
	several := 0
	proofs(2000, 14, func(s api.Sign, g []api.Term, p []api.Step) {
		said, _ := told(s, g, p)
		want := [][]int{}
		for i, u := range said {
			list := []int{}
			for k, v := range said {
				if slices.Equal(u, v) {
					list = append(list, k)
				}
			}
			if len(list) > 1 && list[0] == i {
				want = append(want, list)
			}
		}
		if l, e := short.Repeated(s, g, p); e != api.OK || !sameLists(l, want) {
			t.Errorf("Repeated(%v) = %v, %d", p, l, e)
		}
		if len(want) > 1 {
			several++
		}
	})
	if several < 300 {
		t.Errorf("only %d proofs have several lists", several)
	}
}
