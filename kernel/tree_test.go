package kernel_test

import (
	"math"
	"slices"
	"strings"
	"testing"

	"lemmary/api"
	"lemmary/kernel"
	"lemmary/sample"
)

// tree is a tree with its proof for three givens.
type tree struct {
	text string
	p    []api.Step
}

func trees() []tree {
	c, d := sample.Cite, sample.Detach
	return []tree{
		{"g00", []api.Step{c(0)}}, {"g02", []api.Step{c(2)}},
		{"Dg00g00", []api.Step{c(0), d(0, 0)}},
		{"Dg01g00", []api.Step{c(1), c(0), d(0, 1)}},
		{"DDg01g00g00", []api.Step{c(1), c(0), d(0, 1), d(2, 1)}},
		{"Dg01Dg01g00", []api.Step{c(1), c(0), d(0, 1), d(0, 2)}},
		{"DDg00g01Dg01g00", []api.Step{c(0), c(1), d(0, 1), d(1, 0), d(2, 3)}},
		{"DDg02g02Dg02g02", []api.Step{c(2), d(0, 0), d(1, 1)}},
		{"DDg02DDg02g02g02DDg02g02g01", []api.Step{c(2), d(0, 0), d(1, 0), d(0, 2), c(1), d(1, 4), d(3, 5)}},
	}
}

// 4.4
func TestTree(t *testing.T) {
	for _, x := range trees() {
		if text, e := kernel.Tree(3, x.p); e != api.OK || text != x.text {
			t.Errorf("Tree(%v) = %q, %d", x.p, text, e)
		}
		if p, e := kernel.Untree(3, x.text); e != api.OK || !slices.Equal(p, x.p) {
			t.Errorf("Untree(%q) = %v, %d", x.text, p, e)
		}
	}
	c, d := sample.Cite, sample.Detach
	for _, x := range []tree{
		{"DDg09g10g59", []api.Step{c(59), c(9), c(10), d(1, 2), d(0, 0), d(3, 0)}}, {"g07", []api.Step{c(0), d(0, 0), c(7)}}, {"DDg20g20Dg20g20", []api.Step{c(20), c(20), d(0, 1), d(1, 0), d(2, 3)}},
	} {
		if text, e := kernel.Tree(60, x.p); e != api.OK || text != x.text {
			t.Errorf("Tree(%v) = %q, %d", x.p, text, e)
		}
	}
}

// 4.4: 15 doubling steps have a tree of 65,535 bytes; of one citation more it
// has 65,539.
func TestTreeLimit(t *testing.T) {
	for steps := 1; steps <= api.MaxSteps; steps++ {
		p := sample.Doubling(steps)
		text, e := kernel.Tree(1, p)
		if steps <= 15 && (e != api.OK || len(text) != 1<<(steps+1)-1) || steps > 15 && (e != api.ErrLong || text != "") {
			t.Errorf("Tree of %d steps: %d bytes, %d", steps, len(text), e)
		}
		if back, e := kernel.Untree(1, text); steps <= 15 && (e != api.OK || !slices.Equal(back, p)) {
			t.Errorf("Untree of %d steps = %v, %d", steps, back, e)
		}
		if text, e := kernel.Tree(1, append(p, sample.Cite(0))[:min(steps+1, 60)]); steps < 60 && (e != api.OK || text != "g00") {
			t.Errorf("Tree of a citation behind %d steps = %q, %d", steps, text, e)
		}
	}
	p := append(sample.Doubling(15), sample.Detach(14, 0))
	if text, e := kernel.Tree(1, p); e != api.ErrLong || text != "" {
		t.Errorf("Tree: %d bytes, %d", len(text), e)
	}
}

// 4.4: only trees are read.
func TestUntreeSyntax(t *testing.T) {
	wrong := []string{
		"", " ", "g", "g0", "g1", "g000", "g00 ", " g00", "g00\n", "g 0", "g0x", "g-1", "g+1", "g0\xff", "g٠", "G00", "d00", "00", "g03", "g10", "g60", "g99", "g0:", "g/0", "g:0", "g0/",
		"D", "Dg00", "Dg00g0", "Dg00g00g00", "Dg00 g00", "D g00g00", "D(g00g00)", "dg00g00", "DDg00g00", "Dg00Dg00", "g00g00", "g00Dg00g00", "Dg00g03", "Dg03g00", "Dg00g00D", "Dg00x", "É", "\x00", "\xff",
	}
	for _, text := range wrong {
		if p, e := kernel.Untree(3, text); e != api.ErrSyntax || len(p) != 0 {
			t.Errorf("Untree(%q) = %v, %d", text, p, e)
		}
	}
	for i := range 100 {
		text := "g" + string(rune('0'+i/10)) + string(rune('0'+i%10))
		for _, givens := range []int{0, 1, 9, 10, 11, 59, 60} {
			p, e := kernel.Untree(givens, text)
			if i < givens && (e != api.OK || !slices.Equal(p, []api.Step{sample.Cite(i)})) || i >= givens && (e != api.ErrSyntax || len(p) != 0) {
				t.Errorf("Untree(%d, %q) = %v, %d", givens, text, p, e)
			}
		}
	}
	for _, text := range []string{"g0:", "g0A", "g0/", "g:0", "g/0", "gA0", "g60", "g-1", "g 1", "g1 "} {
		if p, e := kernel.Untree(60, text); e != api.ErrSyntax || len(p) != 0 {
			t.Errorf("Untree(60, %q) = %v, %d", text, p, e)
		}
	}
	for _, givens := range []int{-1, 61, math.MinInt, math.MaxInt} {
		for _, text := range []string{"g00", "", strings.Repeat("x", api.MaxText+1)} {
			if p, e := kernel.Untree(givens, text); e != api.ErrInvalid || len(p) != 0 {
				t.Errorf("Untree(%d, %q) = %v, %d", givens, text, p, e)
			}
		}
	}
}

// 4.4: a text is too long from 65,537 bytes on, whatever it says; one that is
// as deep as it may be long is read, too.
func TestUntreeLong(t *testing.T) {
	for _, unit := range []string{"D", "g00", "Dg00", "x", "\x00"} {
		long := strings.Repeat(unit, api.MaxText+1)[:api.MaxText+1]
		if p, e := kernel.Untree(3, long); e != api.ErrLong || len(p) != 0 {
			t.Errorf("%q: %v, %d", unit, p, e)
		}
		if p, e := kernel.Untree(3, long[:api.MaxText]); e != api.ErrSyntax || len(p) != 0 {
			t.Errorf("%q: %v, %d", unit, p, e)
		}
	}
	deep := strings.Repeat("D", 16383) + strings.Repeat("g00", 16384)
	if p, e := kernel.Untree(1, deep); e != api.ErrLimit || len(p) != 0 || len(deep) != api.MaxText-1 {
		t.Errorf("Untree of a deep text = %v, %d", p, e)
	}
	if p, e := kernel.Untree(1, deep+"D"); e != api.ErrSyntax || len(p) != 0 {
		t.Errorf("Untree of a deep text that is no tree = %v, %d", p, e)
	}
}

// 4.4: 60 different parts are none too many; a text that is no tree is so ahead
// of having too many.
func TestUntreeLimit(t *testing.T) {
	tower := func(parts int) string {
		return strings.Repeat("D", parts-1) + strings.Repeat("g01", parts)
	}
	for parts := 1; parts <= 65; parts++ {
		p, e := kernel.Untree(2, tower(parts))
		if parts <= 60 && (e != api.OK || len(p) != parts || !kernel.ValidProof(2, p)) || parts > 60 && (e != api.ErrLimit || len(p) != 0) {
			t.Errorf("Untree of %d parts = %v, %d", parts, p, e)
		}
		for _, text := range []string{tower(parts) + "g00", tower(parts) + " ", "D" + tower(parts), "D" + tower(parts) + "g02"} {
			if p, e := kernel.Untree(2, text); e != api.ErrSyntax || len(p) != 0 {
				t.Errorf("Untree(%q) = %v, %d", text, p, e)
			}
		}
	}
	twice := "D" + tower(59) + tower(59)
	if p, e := kernel.Untree(2, twice); e != api.OK || len(p) != 60 || p[59] != sample.Detach(58, 58) {
		t.Errorf("Untree of the same parts twice = %v, %d", p, e)
	}
}

// parts returns all parts of a tree, without those that are written in the same
// way as an earlier one, in the order in which they end.
func parts(text string) []string {
	l := []string{}
	var read func(from int) int
	read = func(from int) int {
		to := from + 3
		if text[from] == 'D' {
			to = read(read(from + 1))
		}
		if !slices.Contains(l, text[from:to]) {
			l = append(l, text[from:to])
		}
		return to
	}
	read(0)
	return l
}

// P4.4: a tree that is read again says the same, with a step for each part, in
// the order of the parts; it has the same tree.
func TestUntreeOfTree(t *testing.T) {
	proofs(1000, 14, func(s api.Sign, g []api.Term, p []api.Step) {
		text, e := kernel.Tree(len(g), p)
		if e != api.OK {
			t.Fatalf("Tree(%v): %d", p, e)
		}
		q, e := kernel.Untree(len(g), text)
		want, _ := kernel.Says(s, g, p)
		u, f := kernel.Says(s, g, q)
		if e != api.OK || f != api.OK || !slices.Equal(u, want) {
			t.Errorf("Untree(%q) = %v, %d says %v", text, q, e, u)
		}
		checkParts(t, len(g), q, text)
	})
	shapes(2000, 14, func(p []api.Step) {
		text, _ := kernel.Tree(3, p)
		q, e := kernel.Untree(3, text)
		if e != api.OK {
			t.Fatalf("Untree(%q): %d", text, e)
		}
		checkParts(t, 3, q, text)
	})
}

func checkParts(t *testing.T, givens int, p []api.Step, text string) {
	t.Helper()
	l := parts(text)
	if len(p) != len(l) {
		t.Fatalf("Untree(%q) = %v, but there are %d parts", text, p, len(l))
	}
	for i, part := range l {
		if again, e := kernel.Tree(givens, p[:i+1]); e != api.OK || again != part {
			t.Errorf("Untree(%q) = %v: the step %d has the tree %q, %d", text, p, i, again, e)
		}
	}
}

// P4.4: needed steps alone determine what is said, the count and the height.
func TestNeededStepsAlone(t *testing.T) {
	fewer := 0
	proofs(1000, 12, func(s api.Sign, g []api.Term, p []api.Step) {
		needed, _ := kernel.Needed(len(g), p)
		q := []api.Step{}
		for _, i := range needed {
			step := p[i]
			if step.Kind == api.SDetach {
				step = sample.Detach(slices.Index(needed, step.A), slices.Index(needed, step.B))
			}
			q = append(q, step)
		}
		u, e1 := kernel.Says(s, g, p)
		v, e2 := kernel.Says(s, g, q)
		m, e3 := kernel.Count(len(g), p)
		n, e4 := kernel.Count(len(g), q)
		h, e5 := kernel.Height(len(g), p)
		k, e6 := kernel.Height(len(g), q)
		if e1+e2+e3+e4+e5+e6 != api.OK || !slices.Equal(u, v) || m != n || h != k {
			t.Errorf("%v says %v with count %d and height %d, %v alone %v, %d, %d", p, u, m, h, q, v, n, k)
		}
		if len(q) < len(p) {
			fewer++
		}
	})
	if fewer < 100 {
		t.Errorf("only %d proofs have steps that are not needed", fewer)
	}
}

// 4.4: whatever is read is a proof with just this tree.
func FuzzUntree(f *testing.F) {
	for _, x := range trees() {
		f.Add(x.text)
	}
	f.Add("Dg00")
	f.Fuzz(func(t *testing.T, text string) {
		p, e := kernel.Untree(60, text)
		if e != api.OK && (len(p) != 0 || e != api.ErrSyntax && e != api.ErrLong && e != api.ErrLimit) {
			t.Errorf("Untree(%q) = %v, %d", text, p, e)
		}
		if again, f := kernel.Tree(60, p); e == api.OK && (f != api.OK || again != text) {
			t.Errorf("Tree(Untree(%q)) = %q, %d", text, again, f)
		}
	})
}
