package house_test

import (
	"strings"
	"testing"

	"lemmary/api"
	"lemmary/house"
	"lemmary/kernel"
	"lemmary/sample"
)

// ending is a command, in a house after a script, and how it ends.
type ending struct {
	script, text string
	e            api.Errno
}

// checkEndings fails unless commands end so, by their methods and in scripts, and
// those that fail change nothing.
func checkEndings(t *testing.T, endings []ending) {
	t.Helper()
	for _, end := range endings {
		h, twin := opened(t, end.script), opened(t, end.script)
		before := told(h)
		e, want := acted(end.text).in(h), "ok\n"
		if end.e != api.OK {
			want = fails(end.e)
		}
		printed := house.Do(twin, end.text)
		if e != end.e || printed != want {
			t.Errorf("%.80q after %.200q: %d, and %.80q; want %d", end.text, end.script, e, printed, end.e)
		}
		if same := told(h) == before; same != (e != api.OK) || told(twin) != told(h) {
			t.Errorf("%.80q, %d, makes %s of %s", end.text, e, told(h), before)
		}
	}
}

// 10.2: ErrDuplicate comes ahead of ErrLimit.
func TestAxiom(t *testing.T) {
	checkEndings(t, []ending{
		{"", "axiom a ann x0", api.OK}, {logic, "axiom j ann (x7->x7)", api.OK}, {logic, "axiom aa i (x0->x0)", api.OK}, {full(59), "axiom a59 ann T", api.OK},
		{logic, "axiom k bob T", api.ErrDuplicate}, {logic, "axiom i bob (x0->x0)", api.ErrDuplicate}, {"axiom a ann T\n", "axiom a ann T", api.ErrDuplicate},
		{full(60), "axiom b ann T", api.ErrLimit}, {full(60), "axiom a59 ann T", api.ErrDuplicate}, {full(60) + "drop a7 ann\n", "axiom b ann T", api.OK},
		{"axiom a ann T\nrename a b bob\n", "axiom a ann T", api.OK}, {"axiom a ann T\nrename a b bob\n", "axiom b ann T", api.ErrDuplicate}, {"axiom a ann T\ndrop a bob\n", "axiom a ann T", api.OK},
	})
}

// 10.2: names at their limits, of entries and of persons, also in USES.
func TestNames(t *testing.T) {
	for _, name := range sample.RightNames() {
		h := opened(t, "axiom "+name+" ann T\naxiom other "+name+" T\nprove i "+name+" T "+name+",other g00\nset i ann T other,"+name+" g01\nrename other n2 "+name+"\n")
		if got := house.Do(h, "leans i\nblame n2\nrename "+name+" n3 ann\nrename n3 "+name+" ann\ndrop i "+name+"\ndrop "+name+" ann\ncount\n"); got != min("n2", name)+" "+max("n2", name)+"\n"+name+" "+name+"\nok\nok\nok\nok\n1\n" {
			t.Errorf("with %q Do = %q", name, got)
		}
	}
}

// many is the tree of a proof with so many steps, of which most detach what the
// given 0 says from itself.
func many(steps int) string {
	return strings.Repeat("Dg00", steps-1) + "g00"
}

// huge is the tree of a proof with so many steps, each of which but the first
// detaches the one before from itself.
func huge(steps int) string {
	tree, _ := kernel.Tree(1, sample.Doubling(steps))
	return tree
}

// 10.2: what is claimed need not be all that is proved, nor canonical, and what
// is used need not be cited.
func TestProve(t *testing.T) {
	dozen := "a0,a1,a2,a3,a4,a5,a6,a7,a8,a9,a10,a11"
	checkEndings(t, []ending{
		{logic, "prove j bob (x0->x0) i g00", api.OK}, {logic, "prove j bob (x9->x9) i Dg00g00", api.OK}, {logic, "prove j bob (N(x3)->N(x3)) k,s,i g02", api.OK}, {logic, "prove j bob (x0->x0) k,s DDg01g00g00", api.OK},
		{logic, "prove j bob (x0->(x1->(x2->x1))) k Dg00g00", api.OK}, {logic, "prove j bob (x0->((x1->x2)->(x1->x2))) i,k Dg01g00", api.OK}, {full(59), "prove b bob (x0->x0) " + dozen + " g11", api.OK},
		{logic, "prove j bob (x0->x0) i " + many(60), api.OK}, {logic, "prove j bob (x0->x0) i " + huge(13), api.OK},
		// ErrName, ahead of all that is behind it
		{logic, "prove j bob (x0->x0) l g00", api.ErrName}, {logic, "prove j bob (x0->x0) i,l g00", api.ErrName}, {logic, "prove j bob (x0->x0) i,j g00", api.ErrName}, {"", "prove j bob (x0->x0) j g00", api.ErrName}, {logic, "prove i bob (x0->x1) l xyz", api.ErrName},
		{full(60), "prove a0 bob T b " + many(61), api.ErrName},
		// those of Untree
		{logic, "prove j bob (x0->x0) i xyz", api.ErrSyntax}, {logic, "prove j bob (x0->x0) i g01", api.ErrSyntax}, {logic, "prove j bob (x0->x0) i,k g02", api.ErrSyntax}, {logic, "prove j bob (x0->x0) i g00g00", api.ErrSyntax}, {logic, "prove j bob (x0->x0) i Dg00", api.ErrSyntax}, {logic, "prove j bob (x0->x0) i g0", api.ErrSyntax},
		{logic, "prove j bob (x0->x0) i " + many(61), api.ErrLimit}, {logic, "prove j bob (x0->x0) i D" + many(60) + many(61), api.ErrLimit}, {logic, "prove i bob (x0->x1) i xyz", api.ErrSyntax}, {logic, "prove i bob (x0->x1) i " + many(61), api.ErrLimit}, {full(60), "prove b bob T a0 xyz", api.ErrSyntax},
		// ErrDuplicate, then ErrLimit, then ErrProof
		{logic, "prove i bob (x0->x0) s,k DDg00g01g01", api.ErrDuplicate}, {logic, "prove k bob (x0->(x1->x0)) k g00", api.ErrDuplicate}, {logic, "prove i bob (x0->x1) i g00", api.ErrDuplicate}, {full(60), "prove a0 bob (x0->x0) a0 g00", api.ErrDuplicate}, {full(60), "prove a0 bob T a0 g00", api.ErrDuplicate},
		{full(60), "prove b bob (x0->x0) a0 g00", api.ErrLimit}, {full(60), "prove b bob T a0 g00", api.ErrLimit},
		{logic, "prove j bob (x0->x1) i g00", api.ErrProof}, {logic, "prove j bob x0 i g00", api.ErrProof}, {logic, "prove j bob (x0->(x1->x1)) k g00", api.ErrProof}, {logic, "prove j bob (x0->x0) k,s DDg00g01g01", api.ErrProof}, {logic + "axiom t ann T\n", "prove j bob T t,i Dg00g01", api.ErrProof}, {logic, "prove j bob (x0->x0) s,k DDg00g00DDg00g01g01", api.ErrProof},
	})
}

// 10.2: the errors of Set, in their order; also of trees that only the method can
// be given.
func TestSet(t *testing.T) {
	// i is used by j, and j by m.
	chain := logic + "prove j cy (x0->x0) i g00\nprove m cy (N(x0)->N(x0)) j,i g00\naxiom t ann T\n"
	checkEndings(t, []ending{
		{chain, "set i ann (x0->x0) k,s DDg01g00g00", api.OK}, {chain, "set i ann (x0->x0) s,k DDg00g01g01", api.OK}, {chain, "set i cy (x7->x7) s,k DDg00g01g01", api.OK}, {chain, "set m bob (x0->x0) j g00", api.OK}, {chain, "set m ann (T->T) i,s,k DDg01g02g02", api.OK}, {chain, "set j cy (x0->x0) s,k DDg00g01g01", api.OK},
		{chain, "set t bob (x0->(x1->x1)) k,i Dg00g01", api.OK}, {logic + "axiom j ann (x0->x0)\n", "set j ann (x0->x0) i g00", api.OK}, {chain + "drop m cy\n", "set j cy (T->T) i g00", api.OK}, {chain + "prove n cy (N(T)->N(T)) m g00\n", "set m ann (x0->x0) j g00", api.OK},
		// ErrName: of the entry, or of a use, ahead of all that is behind it
		{chain, "set n ann (x0->x0) i g00", api.ErrName}, {"", "set n ann (x0->x0) n g00", api.ErrName}, {chain, "set j ann (x0->x0) n g00", api.ErrName}, {chain, "set j ann (x0->x0) i,n g00", api.ErrName}, {chain, "set n ann (x0->x0) i xyz", api.ErrName}, {chain, "set j ann (x0->x0) n xyz", api.ErrName}, {chain, "set n ann x0 i " + many(61), api.ErrName}, {chain, "set n ann x0 l g01", api.ErrName},
		// those of Untree
		{chain, "set j cy (x0->x0) i xyz", api.ErrSyntax}, {chain, "set j cy (x0->x0) i g01", api.ErrSyntax}, {chain, "set j cy (x0->x0) j,m g02", api.ErrSyntax}, {chain, "set i cy x0 j " + many(61), api.ErrLimit}, {chain, "set i cy x0 j,i D" + many(61), api.ErrSyntax},
		// ErrNone, but By is a change
		{chain, "set j cy (x0->x0) i g00", api.ErrNone}, {chain, "set j cy (x3->x3) i g00", api.ErrNone}, {chain, "set i bob (x0->x0) s,k DDg00g01g01", api.ErrNone}, {chain, "set j ann (x0->x0) i g00", api.OK}, {chain, "set m cy (N(x0)->N(x0)) i,j g00", api.OK},
		// ErrCircle, also where nothing would hold
		{chain, "set i ann (x0->x0) i g00", api.ErrCircle}, {chain, "set i ann (x0->x0) j g00", api.ErrCircle}, {chain, "set i ann (x0->x0) m,s,k DDg01g02g02", api.ErrCircle}, {chain, "set i ann x0 m g00", api.ErrCircle}, {chain, "set k ann (x0->(x1->x0)) i,j g01", api.ErrCircle}, {chain, "set t ann T t g00", api.ErrCircle}, {chain, "set j ann (T->T) m g00", api.ErrCircle},
		// ErrProof: it does not hold itself, or something breaks
		{chain, "set j ann x0 i g00", api.ErrProof}, {chain, "set i bob (x7->x7) s,k DDg00g01Dg00g01", api.ErrProof}, {chain, "set t ann T i g00", api.ErrProof}, {chain, "set m ann (x0->x1) i g00", api.ErrProof}, {chain, "set t ann T i Dg00g00", api.ErrProof}, {chain, "set j ann (T->T) i g00", api.ErrProof}, {chain, "set i ann (T->T) s,k DDg00g01g01", api.ErrProof}, {chain, "set s ann (x0->x0) k,t g00", api.ErrProof}, {chain, "set k ann (x0->x0) s,t g00", api.ErrProof},
		{logic + "prove j cy (T->(x0->x0)) k,i Dg00g01\n", "set k ann (x0->(x1->x0)) s g00", api.ErrProof}, {chain + "axiom u ann T\nprove v ann T u g00\n", "set u ann (T->T) i g00", api.ErrProof},
	})
	h := opened(t, chain)
	if e := h.Set("i", "ann", api.Term{0, -1, -1}, []string{"s", "k"}, strings.Repeat("g", 65537)); e != api.ErrLong {
		t.Errorf("Set with a long tree: %d", e)
	}
	if e := h.Prove("i", "ann", api.Term{-1}, []string{"s", "k"}, strings.Repeat("g", 65537)); e != api.ErrLong {
		t.Errorf("Prove with a long tree: %d", e)
	}
	if e := h.Prove("i", "ann", api.Term{-1}, []string{"s", "k"}, strings.Repeat("g", 65536)); e != api.ErrSyntax {
		t.Errorf("Prove with a tree that is as long as it can be: %d", e)
	}
}

// 10.2: a proof of what users need must not say less, but it may say more.
func TestSetMore(t *testing.T) {
	script := logic + "axiom g ann (x0->x1)\nprove a ann (N(x0)->N(x0)) i g00\nprove b bob (N(T)->N(T)) a g00\nprove c cy (x0->(N(T)->N(T))) k,a Dg00g01\n"
	checkEndings(t, []ending{
		{script, "set a ann (x0->x0) i g00", api.OK}, {script, "set a ann (x0->x1) g g00", api.OK}, {script, "set a ann (N(x0)->x1) g g00", api.OK}, {script, "set a ann (x0->N(x1)) g g00", api.OK}, {script, "set a ann (N(T)->N(T)) i g00", api.OK},
		{script, "set a ann (N(N(x0))->N(N(x0))) i g00", api.ErrProof}, {script, "set a ann (T->T) i g00", api.ErrProof}, {script, "set a ann (x0->(x1->x0)) k g00", api.ErrProof}, {script, "set a ann x0 g g00", api.ErrProof}, {script + "drop b ann\ndrop c ann\n", "set a ann (T->T) i g00", api.OK}, {script + "drop b ann\n", "set a ann (T->T) i g00", api.ErrProof},
	})
}

// 10.2
func TestRename(t *testing.T) {
	checkEndings(t, []ending{
		{logic, "rename k kk ann", api.OK}, {logic, "rename i j k", api.OK}, {logic, "rename s ann ann", api.OK}, {full(60), "rename a0 b bob", api.OK},
		{logic, "rename j l ann", api.ErrName}, {logic, "rename j k ann", api.ErrName}, {"", "rename a b ann", api.ErrName},
		{logic, "rename k s ann", api.ErrDuplicate}, {logic, "rename i k ann", api.ErrDuplicate}, {logic, "rename k i ann", api.ErrDuplicate},
	})
	h := opened(t, logic+"rename k z cy\nrename s a dan\n")
	if got := house.Do(h, "leans i\ntree i\nblame z\nprove j eve (x0->x0) a,z DDg00g01g01\n"); got != "a z\nDDg00g01g01\nann ann\nok\n" {
		t.Errorf("Do = %q", got)
	}
	want := []api.Entry{{Name: "a", By: "ann", Says: sample.S()}, {Name: "i", By: "bob", Says: api.Term{0, -1, -1}, Uses: []string{"a", "z"}, Proof: h.Entries()[1].Proof}}
	if l := h.Entries(); !sample.SameEntries(l[:2], want) {
		t.Errorf("Entries = %v", l)
	}
}

// 10.2
func TestDrop(t *testing.T) {
	checkEndings(t, []ending{
		{logic, "drop i ann", api.OK}, {"axiom a ann T\n", "drop a bob", api.OK}, {full(60), "drop a59 bob", api.OK}, {logic + "drop i ann\n", "drop k cy", api.OK},
		{logic, "drop j ann", api.ErrName}, {logic, "drop ann ann", api.ErrName}, {"", "drop a ann", api.ErrName}, {logic + "drop i ann\n", "drop i ann", api.ErrName},
		{logic, "drop k ann", api.ErrState}, {logic, "drop s bob", api.ErrState}, {logic + "prove j ann (x0->x0) i g00\n", "drop i bob", api.ErrState},
	})
}

// 10.2, P10.4
func TestShortenErrors(t *testing.T) {
	checkEndings(t, []ending{
		{double, "shorten a ann", api.OK}, {double + "prove b ann N((T->T)) a g00\n", "shorten a bob", api.OK}, {logic + "prove j ann (x0->x0) i Dg00g00\n", "shorten j ann", api.OK}, {logic + "prove j ann (x0->x0) i " + huge(12) + "\n", "shorten j ann", api.OK}, {logic + "prove j ann (T->T) i Dg00g00\n", "shorten j ann", api.OK},
		{double, "shorten b ann", api.ErrName}, {"", "shorten a ann", api.ErrName}, {double, "shorten j bob", api.ErrState}, {logic, "shorten k ann", api.ErrState},
		{logic, "shorten i bob", api.ErrNone}, {logic, "shorten i cy", api.ErrNone}, {double + "shorten a cy\n", "shorten a dan", api.ErrNone}, {logic + "prove j ann (x0->(x1->(x2->x1))) k Dg00g00\n", "shorten j bob", api.ErrNone},
	})
}

// wrongActs holds commands with arguments that are not valid, as they would be if
// one were another one.
func wrongActs() []act {
	wrong := []act{}
	for _, text := range []string{"axiom a ann (x0->x0)", "prove a ann (x0->x0) s,k DDg00g01g01", "set i ann (x0->x0) k,s DDg01g00g00", "rename k l ann", "drop i ann", "shorten i ann"} {
		add := func(change func(a *act)) {
			a := acted(text)
			change(&a)
			wrong = append(wrong, a)
		}
		for _, name := range sample.WrongNames() {
			add(func(a *act) { a.name = name })
			add(func(a *act) { a.by = name })
		}
		switch right := acted(text); right.word {
		case "rename":
			add(func(a *act) { a.new = a.name })
			for _, name := range sample.WrongNames() {
				add(func(a *act) { a.new = name })
			}
		case "axiom", "prove", "set":
			for _, u := range sample.WrongTerms() {
				add(func(a *act) { a.says = u })
			}
			if right.word != "axiom" {
				for _, uses := range wrongUses() {
					add(func(a *act) { a.uses = uses })
				}
			}
		}
	}
	return wrong
}

// wrongUses holds uses that are none.
func wrongUses() [][]string {
	wrong := [][]string{nil, {}, sample.Names(13), append(sample.Names(12), "k"), {"k", "k"}, {"s", "k", "s"}}
	for _, name := range sample.WrongNames() {
		wrong = append(wrong, []string{name}, []string{"s", name}, []string{name, "k"})
	}
	return wrong
}

// 10.2: ErrInvalid comes ahead of all errors but ErrLimit of the book, whatever
// there is.
func TestInvalid(t *testing.T) {
	for _, script := range []string{logic, "", full(60), "axiom a ann T\naxiom k ann T\naxiom l ann T\n" + logic[strings.Index(logic, "axiom s"):strings.Index(logic, "prove")]} {
		h := opened(t, script)
		before := told(h)
		for _, a := range wrongActs() {
			for _, tree := range []string{a.tree, "xyz", many(61)} {
				a.tree = tree
				if e := a.in(h); e != api.ErrInvalid {
					t.Errorf("%.300v after %.80q: %d", a, script, e)
				}
			}
		}
		if told(h) != before {
			t.Errorf("%s has become %s", before, told(h))
		}
	}
}

// 10.2: a house has room for 2,000 lines; then ErrLimit comes ahead of all else,
// and the house can still be asked.
func TestFullBook(t *testing.T) {
	h := opened(t, logic+"axiom a ann T\n"+halves(1994))
	run(t, h, "axiom c cy T\n")
	if len(h.Lines()) != 1999 {
		t.Fatalf("%d lines", len(h.Lines()))
	}
	if got := house.Do(h, "drop k ann\ndrop K ann\nshorten i cy\n"); got != fails(api.ErrState)+fails(api.ErrInvalid)+fails(api.ErrNone) {
		t.Errorf("at 1,999 lines Do = %q", got)
	}
	run(t, h, "drop c cy\n")
	before := told(h)
	texts := "axiom d ann T\nprove d ann (x0->x0) i g00\nset i ann (x0->x0) k,s DDg01g00g00\nrename a d ann\ndrop a ann\nshorten i ann\naxiom A ann T\naxiom a ann T\nprove d ann x0 , xyz\nset d ann x0 x,,x xyz\nrename a a ann\ndrop z ann\nshorten k ann\n"
	if got := house.Do(h, texts); got != strings.Repeat(fails(api.ErrLimit), strings.Count(texts, "\n")) {
		t.Errorf("at 2,000 lines Do = %q", got)
	}
	for _, a := range wrongActs() {
		if e := a.in(h); e != api.ErrLimit {
			t.Errorf("at 2,000 lines %v: %d", a, e)
		}
	}
	if got := house.Do(h, "axiom d ann C\nprove d ann (x0->x0) i\ncount\nblame a\nsays a\nfind T\n\ndrop a\n"); got != fails(14)+fails(14)+"4\nann ann\nT\na\n"+fails(14) {
		t.Errorf("at 2,000 lines Do = %q", got)
	}
	if told(h) != before || len(h.Lines()) != 2000 || len(h.Changes()) != 2000 {
		t.Errorf("%d lines, %d changes", len(h.Lines()), len(h.Changes()))
	}
	if back, e := house.Read(sample.Sign(), h.Bytes()); e != api.OK || !house.Same(back, h) || told(back) != before {
		t.Errorf("Read: %d", e)
	}
}
