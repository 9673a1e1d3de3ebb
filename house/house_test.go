package house_test

import (
	"fmt"
	"slices"
	"strings"
	"testing"

	"lemmary/api"
	"lemmary/blame"
	"lemmary/house"
	"lemmary/sample"
)

// 10.1
func TestNew(t *testing.T) {
	for _, s := range sample.RightSigns() {
		h, e := house.New(s)
		if h == nil || e != api.OK {
			t.Fatalf("New(%v) = %v, %d", s, h, e)
		}
		if !slices.Equal(h.Sign(), s) || len(h.Entries()) > 0 || len(h.Changes()) > 0 || len(h.Lines()) > 0 || len(h.Bytes()) > 0 {
			t.Errorf("New(%v) is %s", s, told(h))
		}
	}
	for _, s := range sample.WrongSigns() {
		if h, e := house.New(s); h != nil || e != api.ErrInvalid {
			t.Errorf("New(%v) = %v, %d", s, h, e)
		}
	}
}

// 10.2, 10.3: the chapter's example: entries in the order of their names, by
// those who did the commands, and the book with what was done.
func TestExample(t *testing.T) {
	h, _ := house.New(api.Sign{{Name: "C", Arity: 2}})
	if got := house.Do(h, logic+"axioms i\n"); got != "ok\nok\nok\nk s\n" {
		t.Errorf("Do = %q", got)
	}
	i := api.Entry{Name: "i", By: "bob", Says: api.Term{0, -1, -1}, Uses: []string{"s", "k"}, Proof: []api.Step{sample.Cite(0), sample.Cite(1), sample.Detach(0, 1), sample.Detach(2, 1)}}
	k, s := sample.Library()[0], sample.Library()[1]
	if l := h.Entries(); !sample.SameEntries(l, []api.Entry{i, k, s}) {
		t.Errorf("Entries = %v", l)
	}
	changes := []api.Change{{Kind: api.CAdd, By: "ann", Entry: k}, {Kind: api.CAdd, By: "ann", Entry: s}, {Kind: api.CAdd, By: "bob", Entry: i}}
	if fmt.Sprint(h.Changes()) != fmt.Sprint(changes) {
		t.Errorf("Changes = %v", h.Changes())
	}
	lines, bytes := bound(strings.Split(strings.TrimSuffix(logic, "\n"), "\n")...)
	if !slices.Equal(h.Lines(), lines) || string(h.Bytes()) != string(bytes) {
		t.Errorf("Lines = %v, Bytes = %q", h.Lines(), h.Bytes())
	}
	if line := h.Lines()[0]; line.Number != 0 || line.Text != "axiom k ann (x0->(x1->x0))" || line.Sum != 14456676894213199444 {
		t.Errorf("the first line is %v", line)
	}
}

// 10.2, 10.3: the change and the Text of each command.
func TestChangesAndTexts(t *testing.T) {
	script := "axiom b ann (x3->(x1->x3))\nprove a bob (x0->(x5->(x2->x5))) b Dg00g00\nset a cy (x1->(x0->(x2->x0))) b Dg00g00\nrename b c dan\ndrop a eve\naxiom n fay N(f(x2,T,x0))\nprove m gus N(f(x4,T,N(x2))) c,n DDg00g01g00\nset m gus N(f(N(x4),T,x4)) c,n DDg00g01Dg00g00\n"
	texts := strings.Split("axiom b ann (x0->(x1->x0))\nprove a bob (x0->(x1->(x2->x1))) b Dg00g00\nset a cy (x0->(x1->(x2->x1))) b Dg00g00\nrename b c dan\ndrop a eve\naxiom n fay N(f(x0,T,x1))\nprove m gus N(f(x0,T,N(x1))) c,n DDg00g01g00\nset m gus N(f(N(x0),T,x0)) c,n DDg00g01Dg00g00", "\n")
	p := []api.Step{sample.Cite(0), sample.Detach(0, 0)}
	q := []api.Step{sample.Cite(0), sample.Cite(1), sample.Detach(0, 1), sample.Detach(2, 0)}
	r := []api.Step{sample.Cite(0), sample.Cite(1), sample.Detach(0, 1), sample.Detach(0, 0), sample.Detach(2, 3)}
	b := api.Entry{Name: "b", By: "ann", Says: sample.K()}
	a := api.Entry{Name: "a", By: "bob", Says: api.Term{0, -1, 0, -2, 0, -3, -2}, Uses: []string{"b"}, Proof: p}
	other := a
	other.By = "cy"
	n := api.Entry{Name: "n", By: "fay", Says: api.Term{1, 3, -1, 2, -2}}
	m := api.Entry{Name: "m", By: "gus", Says: api.Term{1, 3, -1, 2, 1, -2}, Uses: []string{"c", "n"}, Proof: q}
	set := api.Entry{Name: "m", By: "gus", Says: api.Term{1, 3, 1, -1, 2, -1}, Uses: []string{"c", "n"}, Proof: r}
	changes := []api.Change{
		{Kind: api.CAdd, By: "ann", Entry: b}, {Kind: api.CAdd, By: "bob", Entry: a}, {Kind: api.CSet, By: "cy", Entry: other},
		{Kind: api.CName, By: "dan", Name: "b", New: "c"}, {Kind: api.CDrop, By: "eve", Name: "a"},
		{Kind: api.CAdd, By: "fay", Entry: n}, {Kind: api.CAdd, By: "gus", Entry: m}, {Kind: api.CSet, By: "gus", Entry: set},
	}
	h := opened(t, script)
	if fmt.Sprint(h.Changes()) != fmt.Sprint(changes) {
		t.Errorf("Changes = %v", h.Changes())
	}
	if lines, _ := bound(texts...); !slices.Equal(h.Lines(), lines) {
		t.Errorf("Lines = %v", h.Lines())
	}
	b.Name = "c"
	if l := h.Entries(); !sample.SameEntries(l, []api.Entry{b, set, n}) {
		t.Errorf("Entries = %v", l)
	}
}

// double is a script with an entry of which the proof says one thing twice: by a
// citation of j, and proved from s and k.
const double = "axiom j ann (x0->x0)\naxiom p ann (x0->(x1->N(x0)))\naxiom s ann ((x0->(x1->x2))->((x0->x1)->(x0->x2)))\naxiom k ann (x0->(x1->x0))\nprove a bob N((T->T)) p,j,s,k DDg00g01DDg02g03g03\n"

// 10.2, 10.3, P10.4: Shorten is a CSet with the shortest proof, by who does it;
// what the entry says and uses stays.
func TestShorten(t *testing.T) {
	h := opened(t, double+"prove b bob N((T->T)) k,a DDg00g01g00\n")
	if got := house.Do(h, "set b cy N((T->T)) a g00\nshorten a cy\ntree a\nsays a\nleans a\nblame a\n"); got != "ok\nok\nDDg00g01g01\nN((T->T))\nj k p s\nbob cy\n" {
		t.Errorf("Do = %q", got)
	}
	want := api.Entry{Name: "a", By: "cy", Says: api.Term{1, 0, 2, 2}, Uses: []string{"p", "j", "s", "k"}, Proof: []api.Step{sample.Cite(0), sample.Cite(1), sample.Detach(0, 1), sample.Detach(2, 1)}}
	if l := h.Entries(); !sample.SameEntries(l[:1], []api.Entry{want}) {
		t.Errorf("the entry is %v", l[0])
	}
	c, line := h.Changes()[7], h.Lines()[7]
	if fmt.Sprint(c) != fmt.Sprint(api.Change{Kind: api.CSet, By: "cy", Entry: want}) || line.Text != "shorten a cy" {
		t.Errorf("the change is %v, the line %v", c, line)
	}
	if e := h.Shorten("a", "bob"); e != api.ErrNone || len(h.Lines()) != 8 || h.Entries()[0].By != "cy" {
		t.Errorf("again: %d, by %s", e, h.Entries()[0].By)
	}
}

// 10.4
func TestSame(t *testing.T) {
	one, two := opened(t, logic), opened(t, logic)
	if !house.Same(one, two) || !house.Same(one, one) || house.Same(nil, nil) || house.Same(one, nil) || house.Same(nil, one) {
		t.Error("Same of one house and another, or of none")
	}
	// What differs: a line more, the order, by whom, and what was done and taken back.
	for _, script := range []string{"", logic + "drop i ann\n", logic + "axiom a ann T\ndrop a ann\n", strings.Replace(logic, "bob", "cy", 1), strings.Replace(logic, "s,k DDg00g01g01", "k,s DDg01g00g00", 1)} {
		other := opened(t, script)
		if house.Same(one, other) || house.Same(other, one) || !house.Same(other, opened(t, script)) {
			t.Errorf("Same of %q", script)
		}
	}
	lines := strings.SplitAfter(logic, "\n")
	if house.Same(one, opened(t, lines[1]+lines[0]+lines[2])) {
		t.Error("Same of other orders")
	}
	for i, s := range sample.RightSigns() {
		for k, u := range sample.RightSigns() {
			g, _ := house.New(s)
			h, _ := house.New(u)
			house.Do(g, "axiom a ann (x0->x1)\n")
			house.Do(h, "axiom a ann (x0->x1)\n")
			if house.Same(g, h) != (i == k) {
				t.Errorf("Same of houses with the signs %v and %v", s, u)
			}
		}
	}
}

// 10.3, 10.5: a house goes on after 200 changes: Changes has all of them, and
// blame follows them.
func TestManyChanges(t *testing.T) {
	h := opened(t, "axiom a ann T\naxiom c cy T\nprove d dan T a g00\n"+halves(250)+"set d eve T c g00\n"+halves(251))
	if got := house.Do(h, "blame b\nblame c\nblame d\nset b fay T c g00\nblame b\n"); got != "ann ann\ncy cy\ndan eve\nok\nann fay\n" {
		t.Errorf("Do = %q", got)
	}
	changes := h.Changes()
	if len(changes) != 506 || len(h.Lines()) != 506 {
		t.Fatalf("%d changes", len(changes))
	}
	l := []api.Entry{}
	for i := 0; i < len(changes); i += api.MaxChanges {
		e := api.OK
		if l, _, e = blame.Played(sample.Sign(), l, changes[i:min(i+api.MaxChanges, len(changes))]); e != api.OK {
			t.Fatalf("Played: %d", e)
		}
	}
	if !sample.SameEntries(l, h.Entries()) {
		t.Errorf("the changes make %v, not %v", l, h.Entries())
	}
}
