package house_test

import (
	"slices"
	"strconv"
	"strings"
	"testing"

	"lemmary/api"
	"lemmary/deps"
	"lemmary/find"
	"lemmary/house"
	"lemmary/kernel"
	"lemmary/sample"
)

// checkPrinted fails unless a script, in a house after a script of commands,
// prints something.
func checkPrinted(t *testing.T, before, script, want string) {
	t.Helper()
	if got := house.Do(opened(t, before), script); got != want {
		t.Errorf("%.200q after %.80q prints %.200q, not %.200q", script, before, got, want)
	}
}

// 10.5: each query, where there is something to tell and where there is not.
func TestQueries(t *testing.T) {
	// j leans on i, k and s; m on all.
	script := logic + "prove j cy ((x0->x1)->(x0->x1)) i,k g00\nprove m dan (T->T) j,i g01\naxiom t eve f(T,x0,N(x1))\n"
	for query, want := range map[string]string{
		"says k": "(x0->(x1->x0))", "says t": "f(T,x0,N(x1))", "says m": "(T->T)", "says j": "((x0->x1)->(x0->x1))",
		"tree i": "DDg00g01g01", "tree j": "g00", "tree m": "g01", "tree k": "error 10", "tree t": "error 10",
		"leans i": "k s", "leans j": "i k s", "leans m": "i j k s", "leans k": "", "leans t": "",
		"users k": "i j m", "users i": "j m", "users j": "m", "users m": "", "users t": "",
		"axioms i": "k s", "axioms m": "k s", "axioms k": "k", "axioms t": "t",
		"find x0": "i j k m s t", "find x11": "i j k m s t", "find (x0->x1)": "i j k m s", "find (x0->x0)": "i j m", "find (T->x0)": "i k m", "find (N(x0)->N(T))": "i", "find (x1->x0)": "i j k m s", "find f(x0,x0,x1)": "t", "find f(x0,x1,T)": "", "find T": "", "find ((T->T)->(T->N(T)))": "", "find ((T->x0)->(x1->x1))": "i j k s", "find (N(x0)->(x1->x1))": "k",
		"more (T->T)": "i m", "more (x7->x7)": "i", "more x0": "", "more (x0->x1)": "", "more ((x2->T)->(x2->T))": "i j", "more f(T,T,N(T))": "t", "more f(T,x5,N(x5))": "t", "more f(T,x5,x5)": "", "more (N(T)->(T->N(T)))": "k", "more T": "",
		"blame i": "bob bob", "blame k": "ann ann", "blame t": "eve eve",
		"sound": "yes", "count": "6",
	} {
		checkPrinted(t, script, query+"\n", want+"\n")
	}
	for query, want := range map[string]string{"find x0": "", "more x0": "", "find T": "", "more (x0->x0)": "", "sound": "yes", "count": "0"} {
		checkPrinted(t, "", query+"\n", want+"\n")
	}
	checkPrinted(t, full(60), "count\nsound\n", "60\nyes\n")
	checkPrinted(t, "axiom b ann T\naxiom a bob T\naxiom c9 cy T\naxiom c_ cy T\naxiom c10 cy T\n", "find T\nmore T\n", "a b c10 c9 c_\na b c10 c9 c_\n")
}

// 10.5: error 5 of names that there are not, or that are none.
func TestQueriesOfOtherNames(t *testing.T) {
	names := []string{"j", "ann", "ii", "K", "x0", "T", "(x0->x0)", "k,s", "0", "\x00", "k\r", "\tk", "ä", strings.Repeat("i", 17), strings.Repeat("i", 60000)}
	for _, query := range []string{"says", "tree", "leans", "users", "axioms", "blame"} {
		for _, name := range names {
			checkPrinted(t, logic, query+" "+name+"\n", fails(api.ErrName))
		}
		checkPrinted(t, "", query+" k\n", fails(api.ErrName))
		checkPrinted(t, logic+"rename k l ann\n", query+" k\n", fails(api.ErrName))
	}
}

// 10.5: error 14 of all other lines.
func TestOtherLines(t *testing.T) {
	for _, line := range []string{
		" ", "  ", "\r", "\t", "x", "ok", "yes", "error 14", "Count", "count ", " count", "count\r", "count count", "count 3", "sound ", " sound", "sound k", "sound k s", "says", "says ", " says k", "says  k", "says k ", "says k k", "Says k", "says\tk", "tree", "tree i i", "leans", "leans i k", "users", "axioms", "axioms i k", "blame", "blame i bob", "blames i", "entries", "lines", "changes", "bytes", "read", "help", "k", "i i",
		"find", "find ", "more", "more ", "find x0 x0", "find i", "find x12", "find (x0 -> x0)", "more (x0 -> x0)", "find C", "more C", "more x", "find (x0->x0", "more C(x0,x0)", "find [C x0 x0]", "find x0 ", "more  x0", "find N(x0,x1)", "more 0", "find " + strings.Repeat("(", 50000),
		"axiom", "axiom a", "axiom a ann", "axiom a ann ", "axiom a ann T ", "axiom a ann T T", "axiom  a ann T", " axiom a ann T", "axiom a  ann T", "axiom a ann  T", "axiom  ann T", "axiom a  T", "axiom a ann\tT", "Axiom a ann T", "axiom a ann C", "axiom a ann x12", "axiom a ann (x0 -> x0)", "axiom A Ann t", "axiom k ann t", "axioms a ann T", "axiom a ann T\r",
		"prove a ann (x0->x0) s,k", "prove a ann (x0->x0) s,k DDg00g01g01 x", "prove a ann (x0->x0) s,k ", "prove a ann (x0->x0)  DDg00g01g01", "prove a ann (x0->x0) s, k DDg00g01g01", "prove a ann (x0->x0) s k DDg00g01g01", "prove a ann  s,k DDg00g01g01", "prove a ann C s,k DDg00g01g01", "prove A ann C s,,k x", "prove i Ann x12 , x", "set A ann C s,,k x", "set i ann x12 s,k DDg00g01g01", "set n ann C l x", "set i ann (x0->x0) k", "set i ann (x0->x0)  DDg00g01g01",
		"rename", "rename k", "rename k l", "rename k l ann x", "rename  l ann", "rename k  ann", "rename k l ", "drop i", "drop i ", "drop  ann", "drop i ann x", "drop", "shorten", "shorten i", "shorten i ", "shorten  bob", "shorten i bob x", "DROP i ann",
	} {
		checkPrinted(t, logic, line+"\n", fails(api.ErrCommand))
		checkPrinted(t, logic, line, fails(api.ErrCommand))
		checkPrinted(t, logic, "count\n"+line+"\ncount\n", "3\n"+fails(api.ErrCommand)+"3\n")
	}
}

// 10.5: error 1 of names that are none, and of USES that are not names with
// commas between them, in commands.
func TestCommandsOfOtherNames(t *testing.T) {
	for _, line := range []string{
		"axiom A ann T", "axiom a Ann T", "axiom k Ann T", "axiom , ann T", "axiom a (x0->x0) T", "prove A ann (x0->x0) s,k DDg00g01g01", "prove a 1 (x0->x0) l x", "set I ann (x0->x0) s,k DDg00g01g01", "set i Bob (x0->x0) l x", "rename K l ann", "rename k L ann", "rename k l Ann", "rename k k ann", "rename K s ann", "drop I ann", "drop i _", "drop n Ann", "shorten I ann", "shorten k Ann", "shorten n A", "drop " + strings.Repeat("i", 17) + " ann", "drop i " + strings.Repeat("i", 60000), "drop i ann\r",
		"prove a ann (x0->x0) , DDg00g01g01", "prove a ann (x0->x0) s, DDg00g01g01", "prove a ann (x0->x0) ,s,k DDg00g01g01", "prove a ann (x0->x0) s,k, DDg00g01g01", "prove a ann (x0->x0) s,,k DDg00g01g01", "prove a ann (x0->x0) s;k DDg00g01g01", "prove a ann (x0->x0) S,k DDg00g01g01", "prove a ann (x0->x0) s,s DDg00g01g01", "prove i ann (x0->x0) - x", "set i bob (x0->x0) s,K DDg00g01g01", "set i bob (x0->x0) s,k,s DDg00g01g01", "set i bob (x0->x0) , x", "set n bob (x0->x0) l, x", "prove a ann (x0->x0) a,b,c,d,e,f,g,h,i,j,k,l,m g00", "set i ann (x0->x0) s\tk g00",
	} {
		checkPrinted(t, logic, line+"\n", fails(api.ErrInvalid))
	}
}

// 10.5: lines that are printed end with a line feed; empty lines print nothing;
// the last line counts without its line feed.
func TestLines(t *testing.T) {
	for script, want := range map[string]string{
		"": "", "\n": "", "\n\n\n": "", "count": "3\n", "count\n": "3\n", "\n\ncount\n\n\nsound": "3\nyes\n", "leans k": "\n", "leans k\n\nleans k\n": "\n\n", "drop i ann": "ok\n", "drop i ann\ndrop i ann\ncount": "ok\nerror 5\n2\n", "count\r\ncount": "error 14\n3\n", "x\n\x00\nleans i\n": "error 14\nerror 14\nk s\n",
	} {
		checkPrinted(t, logic, script, want)
	}
}

// 10.5: a script of more than MaxText bytes does nothing, and no more does one in
// no house.
func TestLongScripts(t *testing.T) {
	h := opened(t, logic)
	before := told(h)
	for _, script := range []string{strings.Repeat("\n", 65537), "drop i ann\n" + strings.Repeat("\n", 65526), strings.Repeat("drop i ann\n", 6000), strings.Repeat("x", 1<<20)} {
		if got := house.Do(h, script); got != "error 3\n" {
			t.Errorf("%d bytes print %.80q", len(script), got)
		}
		if got := house.Do(nil, script); got != "error 1\n" {
			t.Errorf("%d bytes in no house print %.80q", len(script), got)
		}
	}
	if told(h) != before {
		t.Errorf("the house has become %s", told(h))
	}
	for _, script := range []string{"", "\n", "count\n", "x", logic} {
		if got := house.Do(nil, script); got != "error 1\n" {
			t.Errorf("%q in no house prints %q", script, got)
		}
	}
	for script, want := range map[string]string{strings.Repeat("\n", 65536): "", "drop i ann\n" + strings.Repeat("\n", 65525): "ok\n", strings.Repeat("x", 65536): fails(api.ErrCommand), strings.Repeat("count\n", 10922) + "\n\n\n\n": strings.Repeat("3\n", 10922)} {
		checkPrinted(t, logic, script, want)
	}
}

// long is a script with an entry by a tree in which H is a long one of what q
// says. So this is said twice, and once only in its short form.
func long(uses, term, tree string) string {
	powers := "t"
	for range 12 {
		powers = "DDg01" + powers + powers
	}
	tower := strings.Repeat("N(", 12) + "T" + strings.Repeat(")", 12)
	axioms := "axiom t ann T\naxiom d ann (x0->(x0->N(x0)))\naxiom e ann " + term + "\naxiom q ann " + tower + "\n"
	return axioms + "prove a bob f(T,T,T) " + uses + " " + strings.ReplaceAll(strings.ReplaceAll(tree, "H", powers), "t", "g00") + "\n"
}

// 10.5: the tree of a proof that was shortened may be longer, and too long.
func TestTreeTooLong(t *testing.T) {
	before := long("t,d,e,q", "(x0->(x0->f(T,T,T)))", "DDg02Hg03")
	h := opened(t, before)
	if got := house.Do(h, "tree a\n"); len(got) != 5+32763+3+1 {
		t.Errorf("the tree has %d bytes", len(got))
	}
	if got := house.Do(h, "shorten a cy\ntree a\n"); len(got) != len("ok\n")+5+2*32763+1 {
		t.Errorf("Do = %.80q, %d bytes", got, len(got))
	}
	h = opened(t, long("t,d,e,q", "(x0->(x0->(x0->f(T,T,T))))", "DDDg02Hg03g03"))
	if got := house.Do(h, "tree a\n"); len(got) != 6+32763+6+1 {
		t.Errorf("the tree has %d bytes", len(got))
	}
	if got := house.Do(h, "shorten a cy\ntree a\nsays a\nblame a\nshorten a bob\nsound\n"); got != "ok\nerror 3\nf(T,T,T)\nbob cy\nerror 8\nyes\n" {
		t.Errorf("Do = %.80q", got)
	}
	checkHouse(t, h.Bytes(), h, "with a tree that is too long")
}

// dealtHouse returns a house after random commands.
func dealtHouse(t *testing.T, d *sample.Dice, commands int) *house.House {
	t.Helper()
	h := opened(t, "")
	for range commands {
		dealt(d, h.Entries()).in(h)
	}
	return h
}

// 10.5: in random houses, against what the lower layers tell.
func TestQueriesRandom(t *testing.T) {
	var d sample.Dice
	s := sample.Sign()
	terms := append(sample.SmallTerms(s, 3, 0, 1), sample.K(), sample.S())
	for range 60 {
		h := dealtHouse(t, &d, 60)
		l := h.Entries()
		shelf := []api.Term{}
		for _, x := range l {
			shelf = append(shelf, x.Says)
			leans, _ := deps.Leans(s, l, x.Name)
			users, _ := deps.Users(s, l, x.Name)
			axioms, _ := deps.Axioms(s, l, x.Name)
			says, _ := house.Plain(s, x.Says)
			tree, _ := kernel.Tree(len(x.Uses), x.Proof)
			if len(x.Uses) == 0 {
				tree = "error 10"
			}
			want := strings.Join([]string{says, tree, strings.Join(leans, " "), strings.Join(users, " "), strings.Join(axioms, " "), "yes", strconv.Itoa(len(l))}, "\n") + "\n"
			script := strings.ReplaceAll("says n\ntree n\nleans n\nusers n\naxioms n\n", " n", " "+x.Name) + "sound\ncount\n"
			if got := house.Do(h, script); got != want {
				t.Errorf("%q prints %q, not %q", script, got, want)
			}
		}
		for _, u := range terms {
			text, _ := house.Plain(s, u)
			meeting, _ := find.Meeting(s, shelf, u)
			generals, _ := find.Generals(s, shelf, u)
			want := called(l, meeting) + "\n" + called(l, generals) + "\n"
			if got := house.Do(h, "find "+text+"\nmore "+text+"\n"); got != want {
				t.Errorf("of %s: %q, not %q", text, got, want)
			}
		}
	}
}

// called returns the names of the entries with some indexes.
func called(l []api.Entry, indexes []int) string {
	names := []string{}
	for _, i := range indexes {
		names = append(names, l[i].Name)
	}
	slices.Sort(names)
	return strings.Join(names, " ")
}

// dealtScript returns a random script, with lines of all kinds.
func dealtScript(d *sample.Dice, lines int) string {
	h, _ := house.New(sample.Sign())
	others := strings.Split("\nx\ncount\nsound\nfind (x0->x0)\nmore (T->T)\nfind i\nsays n1\ntree n2\nleans n3\nusers n4\naxioms n5\nblame n6\nblame n7", "\n")
	script := ""
	for range lines {
		line := others[d.Roll(len(others))]
		a := dealt(d, h.Entries())
		if text := a.text(); d.Roll(3) > 0 && len(text) < 1000 && !strings.Contains(text, "\n") {
			a.in(h)
			line = text
		}
		script += line + "\n"
	}
	return script
}

// P10.6: scripts one after the other, however they are cut, print what all of
// them together print.
func TestScriptsInParts(t *testing.T) {
	var d sample.Dice
	for range 60 {
		script := dealtScript(&d, 60)
		whole, parts := opened(t, ""), opened(t, "")
		want := house.Do(whole, script)
		lines := strings.SplitAfter(script, "\n")
		got := ""
		for from := 0; from < len(lines); {
			to := min(from+d.Roll(20), len(lines))
			got += house.Do(parts, strings.Join(lines[from:to], ""))
			from = to
		}
		if got != want || told(parts) != told(whole) {
			t.Errorf("%q prints %q, in parts %q", script, want, got)
		}
		lines = slices.DeleteFunc(lines, func(line string) bool { return line == "" || line == "\n" })
		if strings.Count(want, "\n") != len(lines) {
			t.Errorf("%q prints %q", script, want)
		}
	}
}

// R1, P10.2, P10.5: whatever a script does, the house is sound, and its book makes
// it again.
func FuzzDo(f *testing.F) {
	f.Add(logic)
	f.Add(story)
	f.Add("count\nfind x0\nblame i\ntree k\n")
	f.Fuzz(func(t *testing.T, script string) {
		h := opened(t, logic)
		house.Do(h, script)
		sound, e := deps.Sound(h.Sign(), h.Entries())
		back, r := house.Read(h.Sign(), h.Bytes())
		if !sound || e != api.OK || r != api.OK || !house.Same(h, back) {
			t.Errorf("after %q the house is %s", script, told(h))
		}
	})
}
