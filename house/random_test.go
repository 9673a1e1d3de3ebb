package house_test

import (
	"slices"
	"strings"
	"testing"

	"lemmary/api"
	"lemmary/blame"
	"lemmary/deps"
	"lemmary/house"
	"lemmary/kernel"
	"lemmary/sample"
	"lemmary/short"
	"lemmary/unify"
)

// dealt returns a random command, most often about entries that there are.
func dealt(d *sample.Dice, l []api.Entry) act {
	words := strings.Fields("axiom prove prove prove prove set set set set rename drop shorten shorten")
	a := act{word: words[d.Roll(len(words))], name: dealtName(d, l), by: []string{"ann", "bob", "cy"}[d.Roll(3)]}
	if (a.word == "axiom" || a.word == "prove") && d.Roll(4) > 0 {
		a.name = dealtName(d, nil)
	}
	wrong := sample.WrongNames()
	switch d.Roll(40) {
	case 0:
		a.name = wrong[d.Roll(len(wrong))]
	case 1:
		a.by = wrong[d.Roll(len(wrong))]
	}
	switch a.word {
	case "axiom":
		terms := []api.Term{sample.K(), sample.S(), {0, -1, -1}, {0, -5, -5}, {2}, {0, -1, 0, -2, 1, -1}, {0, 2}}
		a.says = terms[d.Roll(len(terms))]
	case "rename":
		a.new = dealtName(d, nil)
	case "prove", "set":
		a.claim(d, l)
		if i := at(l, a.name); i >= 0 && len(l[i].Uses) > 0 && d.Roll(8) == 0 {
			a.by, a.says, a.uses = l[i].By, l[i].Says, l[i].Uses
			a.tree, _ = kernel.Tree(len(a.uses), l[i].Proof)
		}
	}
	return a
}

// dealtName returns the name of an entry, or any name.
func dealtName(d *sample.Dice, l []api.Entry) string {
	if len(l) > 0 && d.Roll(8) > 0 {
		return l[d.Roll(len(l))].Name
	}
	return sample.Names(9)[d.Roll(9)]
}

// claim gives a command a proof from some entries, and lets it say what this
// says, or what another entry says: most often so.
func (a *act) claim(d *sample.Dice, l []api.Entry) {
	for range 1 + d.Roll(4) {
		if name := dealtName(d, l); !slices.Contains(a.uses, name) || d.Roll(10) == 0 {
			a.uses = append(a.uses, name)
		}
	}
	a.says, a.tree = api.Term{-1}, "g00"
	if slices.ContainsFunc(a.uses, func(name string) bool { return at(l, name) < 0 }) {
		return
	}
	g := givens(l, a.uses)
	p := d.Proof(len(g), 1+d.Roll(7), func(p []api.Step) bool { return short.Good(sample.Sign(), g, p) })
	a.tree, _ = kernel.Tree(len(g), p)
	a.says, _ = kernel.Says(sample.Sign(), g, p)
	switch d.Roll(12) {
	case 0:
		a.tree += "g"
	case 1:
		a.tree = "D" + a.tree + "g13"
	case 2, 3, 6:
		a.says = l[d.Roll(len(l))].Says
	case 4:
		if special := sample.Put([]api.Bind{{Var: 0, To: api.Term{1, -7}}}, a.says); len(special) <= api.MaxSize {
			a.says = special
		}
	case 5:
		a.says = api.Term{0}
	}
	// So that an entry that others use can be set, too.
	if i := at(l, a.name); i >= 0 && a.word == "set" && d.Roll(2) == 0 && kernel.Proves(sample.Sign(), g, p, l[i].Says) {
		a.says = l[i].Says
	}
}

// marks is who added each entry first, and who changed it last.
type marks map[string]api.Mark

// follow follows a change.
func (m marks) follow(c api.Change) {
	name := c.Name + c.Entry.Name
	mark := m[name]
	switch c.Kind {
	case api.CAdd:
		mark = api.Mark{Name: name, First: c.By, Last: c.By}
	case api.CSet:
		mark.Last = c.By
	case api.CName:
		mark.Name = c.New
	}
	delete(m, name)
	if c.Kind != api.CDrop {
		m[mark.Name] = mark
	}
}

// 10.2, 10.3, P10.2, P10.3, P10.4, P10.6: random commands, by their methods and
// in scripts, against the chapter's words: a command that fails changes nothing;
// after one that does not, the library is sound, what the change makes, and the
// book has a line more.
func TestRandomCommands(t *testing.T) {
	var d sample.Dice
	ends := map[string]map[api.Errno]int{}
	for range 300 {
		h, twin := opened(t, ""), opened(t, "")
		blamed, texts := marks{}, []string{}
		for range 60 {
			l, before := h.Entries(), told(h)
			a := dealt(&d, l)
			c, want := a.after(l)
			got := a.in(h)
			if got != want {
				t.Fatalf("%v in %v: %d, not %d", a, l, got, want)
			}
			if ends[a.word] == nil {
				ends[a.word] = map[api.Errno]int{}
			}
			ends[a.word][want]++
			if want != api.OK {
				if told(h) != before {
					t.Fatalf("%v fails, and changes\n%s\ninto\n%s", a, before, told(h))
				}
				continue
			}
			texts = append(texts, a.text())
			blamed.follow(c)
			run(t, twin, a.text()+"\n")
			checkDone(t, h, twin, l, c, texts)
			if a.word == "shorten" {
				checkShorter(t, l, h.Entries(), a.name)
			}
		}
		checkMarks(t, h, blamed)
		if back, e := house.Read(sample.Sign(), h.Bytes()); e != api.OK || !house.Same(back, h) || told(back) != told(h) {
			t.Errorf("Read of %q: %d", h.Bytes(), e)
		}
	}
	checkEnds(t, ends)
}

// checkDone fails unless a command has been done right: in two houses, in which
// there were entries before, as a change, and as the last of some Texts.
func checkDone(t *testing.T, h, twin *house.House, l []api.Entry, c api.Change, texts []string) {
	t.Helper()
	made, e := blame.Made(sample.Sign(), l, c)
	if e != api.OK || !sample.SameEntries(made, h.Entries()) {
		t.Fatalf("%v makes %v of %v", c, h.Entries(), l)
	}
	if sound, e := deps.Sound(sample.Sign(), h.Entries()); !sound || e != api.OK {
		t.Fatalf("after %v the library %v is not sound", c, made)
	}
	lines, _ := bound(texts...)
	if !slices.Equal(lines, h.Lines()) || told(h) != told(twin) || !house.Same(h, twin) {
		t.Fatalf("after %q the lines are %v, and in a script %v", texts, h.Lines(), twin.Lines())
	}
	last := h.Changes()[len(texts)-1]
	if last.Kind != c.Kind || last.By != c.By || last.Name != c.Name || last.New != c.New || !blame.Same(last.Entry, c.Entry) {
		t.Fatalf("the change %v, not %v", last, c)
	}
	if played, _, e := blame.Played(sample.Sign(), nil, h.Changes()); e != api.OK || !sample.SameEntries(played, made) {
		t.Fatalf("the changes make %v, not %v", played, made)
	}
}

// checkShorter fails unless the proof of an entry has become shorter, and says no
// less, while all else of the entry but By is as it was.
func checkShorter(t *testing.T, before, now []api.Entry, name string) {
	t.Helper()
	x, y := before[at(before, name)], now[at(now, name)]
	was, _ := deps.Strongest(sample.Sign(), before, name)
	is, e := deps.Strongest(sample.Sign(), now, name)
	if len(y.Proof) >= len(x.Proof) || e != api.OK || !unify.Instance(sample.Sign(), is, was) {
		t.Errorf("%v, which says %v, says %v by %v", x, was, is, y.Proof)
	}
	x.By, x.Proof, y.By, y.Proof = "", nil, "", nil
	if !blame.Same(x, y) {
		t.Errorf("%v has become %v", x, y)
	}
}

// checkMarks fails unless a house tells who wrote what.
func checkMarks(t *testing.T, h *house.House, want marks) {
	t.Helper()
	list, _ := blame.Blame(sample.Sign(), h.Changes())
	if len(list) != len(want) || len(list) != len(h.Entries()) {
		t.Errorf("%d marks, not %d", len(list), len(want))
	}
	for _, mark := range list {
		if got := house.Do(h, "blame "+mark.Name); got != mark.First+" "+mark.Last+"\n" || mark != want[mark.Name] {
			t.Errorf("blame of %v: %s", mark, got)
		}
	}
}

// checkEnds fails unless random commands have come to all ends that they can
// come to often enough.
func checkEnds(t *testing.T, ends map[string]map[api.Errno]int) {
	t.Helper()
	for word, errors := range map[string][]api.Errno{
		"axiom":   {api.OK, api.ErrInvalid, api.ErrDuplicate},
		"prove":   {api.OK, api.ErrInvalid, api.ErrName, api.ErrSyntax, api.ErrDuplicate, api.ErrProof},
		"set":     {api.OK, api.ErrInvalid, api.ErrName, api.ErrSyntax, api.ErrNone, api.ErrCircle, api.ErrProof},
		"rename":  {api.OK, api.ErrInvalid, api.ErrName, api.ErrDuplicate},
		"drop":    {api.OK, api.ErrInvalid, api.ErrName, api.ErrState},
		"shorten": {api.OK, api.ErrInvalid, api.ErrName, api.ErrState, api.ErrNone},
	} {
		for _, e := range errors {
			if ends[word][e] < 10 {
				t.Errorf("%s ends with %d only %d times", word, e, ends[word][e])
			}
		}
	}
}
