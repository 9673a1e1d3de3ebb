package deps_test

import (
	"slices"
	"strings"
	"testing"

	"lemmary/api"
	"lemmary/deps"
	"lemmary/sample"
)

// 6.4
func TestFormat(t *testing.T) {
	s := sample.Sign()
	chapter := "entry k by ann says <C x0 C x1 x0> uses\nentry s by ann says <C C x0 C x1 x2 C C x0 x1 C x0 x2> uses\n" +
		"entry i by bob says <C x0 x0> uses k s\ncite 1\ncite 0\ndetach 0 1\ndetach 2 1\n"
	tests := []struct {
		l    []api.Entry
		text string
	}{
		{nil, ""},
		{[]api.Entry{}, ""},
		{sample.Library(), chapter},
		{[]api.Entry{{Name: "a", By: "b", Says: api.Term{2}}}, "entry a by b says <T> uses\n"},
		{[]api.Entry{{Name: "uses", By: "by", Says: api.Term{-1}, Uses: []string{"uses", "entry"}, Proof: []api.Step{sample.Cite(1)}}}, "entry uses by by says <x0> uses uses entry\ncite 1\n"},
		{graph([]string{"b", "c", "a"}, []string{"a", "b"}), "entry b by ann says <C x0 C x1 x0> uses c a\ncite 0\nentry a by ann says <C x0 C x1 x0> uses b\ncite 0\n"},
		{[]api.Entry{{Name: "wide", By: "x_1", Says: sample.Chain(sample.Vars(0, 11)...)}, {Name: "deep", By: "x0", Says: api.Term{3, 2, -1, 1, -1}}},
			"entry wide by x_1 says <C x0 C x1 C x2 C x3 C x4 C x5 C x6 C x7 C x8 C x9 C x10 x11> uses\nentry deep by x0 says <f T x0 N x0> uses\n"},
	}
	for _, test := range tests {
		if text := deps.Format(s, test.l); text != test.text {
			t.Errorf("Format(%v) = %q", test.l, text)
		}
		if l, line, e := deps.Parse(s, test.text); e != api.OK || line != 0 || !sample.SameEntries(l, test.l) {
			t.Errorf("Parse(%q) = %v, %d, %d", test.text, l, line, e)
		}
	}
	for _, l := range sample.WrongLibraries() {
		if text := deps.Format(s, l); text != "" {
			t.Errorf("Format(%v) = %q", l, text)
		}
	}
}

// 6.4: symbols may be called as anything else in a text is.
func TestFormatOfOtherSigns(t *testing.T) {
	s := api.Sign{{Name: "uses", Arity: 2}, {Name: "x"}, {Name: "entry", Arity: 1}, {Name: "X", Arity: 1}}
	l := []api.Entry{{Name: "x", By: "uses", Says: api.Term{0, 2, 1, 0, 3, -1, 1}}}
	text := "entry x by uses says <uses entry x uses X x0 x> uses\n"
	if deps.Format(s, l) != text {
		t.Errorf("Format = %q", deps.Format(s, l))
	}
	if back, line, e := deps.Parse(s, text); e != api.OK || line != 0 || !sample.SameEntries(back, l) {
		t.Errorf("Parse = %v, %d, %d", back, line, e)
	}
	if back, line, e := deps.Parse(sample.Sign(), text); e != api.ErrSyntax || line != 0 || len(back) != 0 {
		t.Errorf("Parse = %v, %d, %d", back, line, e)
	}
}

// The lines of a text, of which those of k and i are entries.
const (
	lineK = "entry k by ann says <C x0 C x1 x0> uses\n"
	lineI = "entry i by bob says <C x0 x0> uses k s\n"
	line0 = "cite 0\n"
	line1 = "cite 1\n"
)

// wrongClaims has lines that no text has where an entry may stand, after k and
// before a proof.
func wrongClaims() []string {
	wrong := []string{
		"\n", " \n", "cite\n", "x\n", "\x00\n", "\xff\n", "entry\n", "entry \n", "entry i\n", "entry i by bob\n", "entry i by bob says\n", "entry i by bob says <C x0 x0>\n", "entry i by bob says <C x0 x0> \n", "entry i by bob says <> uses k\n",
		"entry k by ann says <C x0 C x1 x0> uses k\n", "entry i by bob says <C x0 x0> uses k k\n", "entry i by bob says <C x0 x0> uses a b c d e f g h i j k l m\n", "entry i by bob says <C x0 x0> uses k,s\n",
		"entry i by bob says <C x1 x1> uses k s\n", "entry i by bob says <C x1 x0> uses k s\n", "entry i by bob says <C x0> uses k s\n", "entry i by bob says <C x0 x0 x0> uses k s\n", "entry i by bob says <C x0 x00> uses k s\n", "entry i by bob says <C x0 Q> uses k s\n", "entry i by bob says <c x0 x0> uses k s\n", "entry i by bob says <x12> uses k s\n",
		"entry i by bob says <(x0 -> x0)> uses k s\n", "entry i by bob says <[C x0 x0]> uses k s\n", "entry i by bob says <x0> x0> uses k s\n", "entry i by bob says <<x0> uses k s\n",
		"entry i by bob says <" + strings.Repeat("N ", 60) + "T> uses k s\n", "entry I by bob says <C x0 x0> uses k s\n", "entry i by Bob says <C x0 x0> uses k s\n", "entry i by bob says <C x0 x0> uses K s\n", "entry 0 by bob says <C x0 x0> uses k s\n",
		"entry " + strings.Repeat("i", 17) + " by bob says <C x0 x0> uses k s\n", "entry i j by bob says <C x0 x0> uses k s\n", "entry i by says <C x0 x0> uses k s\n", "entry by bob says <C x0 x0> uses k s\n",
	}
	last := strings.LastIndex(lineI, " ")
	for at := range len(lineI) - 1 { // with a byte that is another one, doubled, or not there
		wrong = append(wrong, lineI[:at]+"-"+lineI[at+1:])
		if c := lineI[at]; c < 'a' || c > 'z' {
			wrong = append(wrong, lineI[:at]+string(c)+lineI[at:])
			if at < last { // ks is a name, too
				wrong = append(wrong, lineI[:at]+lineI[at+1:])
			}
		}
	}
	return append(wrong, " "+lineI, lineI[:len(lineI)-1]+" \n", lineI[:len(lineI)-1]+"\r\n", strings.ToUpper(lineI))
}

// checkSyntax fails unless a text is wrong at a line.
func checkSyntax(t *testing.T, text string, want int) {
	t.Helper()
	if l, line, e := deps.Parse(sample.Sign(), text); e != api.ErrSyntax || line != want || len(l) != 0 {
		t.Errorf("Parse(%q) = %v, %d, %d; want the line %d", text, l, line, e, want)
	}
}

// 6.4: lines of entries that are wrong at themselves, whatever comes behind.
func TestParseWrongClaims(t *testing.T) {
	proof := "cite 1\ncite 0\ndetach 0 1\ndetach 1 0\n"
	for _, wrong := range wrongClaims() {
		for _, behind := range []string{"", "\n", "x", proof, lineI, line0 + lineI + proof} {
			checkSyntax(t, lineK+wrong+behind, 1)
			checkSyntax(t, lineK+"entry j by bob says <C x0 x0> uses k\ncite 0\n"+wrong+behind, 3)
			checkSyntax(t, lineK+"entry j by bob says <C x0 x0> uses k\n"+wrong+behind, 2)
		}
	}
	for end := range len(lineI) {
		if end > 0 {
			checkSyntax(t, lineI[:end], 0)
			checkSyntax(t, lineK+lineI[:end], 1)
			checkSyntax(t, lineI+line0+lineK[:min(end, len(lineK)-1)], 2)
		}
	}
}

// 6.4: names that come twice, and a 61st entry, are wrong at themselves.
func TestParseWrongLibraries(t *testing.T) {
	checkSyntax(t, lineK+lineK, 1)
	checkSyntax(t, lineI+line0+lineI+line0, 2)
	checkSyntax(t, lineI+line0+line1+lineK+strings.Replace(lineI, "bob", "cy", 1), 4)
	text := ""
	for _, name := range sample.Names(60) {
		text += strings.Replace(lineI, "entry i", "entry "+name, 1) + line0
	}
	if l, line, e := deps.Parse(sample.Sign(), text); e != api.OK || line != 0 || len(l) != 60 {
		t.Errorf("Parse = %v, %d, %d", l, line, e)
	}
	for _, wrong := range []string{lineK, lineI, lineI + line0, lineK[:10], "x\n", "\n"} {
		checkSyntax(t, text+wrong, 120)
	}
	checkSyntax(t, text+"cite 2\n", 120)
	checkSyntax(t, text+"detach 0 0\ncite 2\n", 121)
}

// 6.4: an entry with uses has no proof, and one without has one.
func TestParseWhereNoProofIs(t *testing.T) {
	checkSyntax(t, lineI, 1)
	checkSyntax(t, lineK+lineI, 2)
	checkSyntax(t, lineI+lineK, 1)
	checkSyntax(t, lineK+lineI+"entry j by bob says <C x0 x0> uses k\ncite 0\n", 2)
	checkSyntax(t, lineI+line0+"entry j by bob says <C x0 x0> uses k\n", 3)
	checkSyntax(t, lineK+line0, 1)
	checkSyntax(t, lineK+"detach 0 0\n", 1)
	checkSyntax(t, line0, 0)
	checkSyntax(t, line0+lineK, 0)
	checkSyntax(t, "\n", 0)
	checkSyntax(t, "\n"+lineK, 0)
	checkSyntax(t, lineK+"\n", 1)
	checkSyntax(t, lineK+"\n"+lineI, 1)
}

// 6.4: lines of proofs that are none there, whatever comes behind.
func TestParseWrongProofs(t *testing.T) {
	for _, wrong := range []string{
		"\n", " \n", "cite\n", "cite 2\n", "cite 59\n", "cite 60\n", "cite -1\n", "cite 01\n", "cite 0 0\n", "cite 0 \n", " cite 0\n", "cite  0\n", "cite 0\r\n", "detach 0 1\n", "detach 1 0\n", "detach 0\n", "Cite 0\n", "x\n", "entry\n", "entr\n", "cite 18446744073709551616\n",
	} {
		for _, behind := range []string{"", line0, "cite 9\n", lineK, "\n", "x"} {
			checkSyntax(t, lineI+line1+wrong+behind, 2)
			checkSyntax(t, lineK+lineI+line0+wrong+behind, 3)
		}
	}
	for _, wrong := range []string{"cite 0", "cite", "c", "detach 0 0", "entry", "e", lineK[:len(lineK)-1]} {
		checkSyntax(t, lineI+line0+wrong, 2)
		checkSyntax(t, lineI+wrong, 1)
	}
	checkSyntax(t, lineI+"detach 0 0\n", 1)
	checkSyntax(t, lineI+"cite 2\nx\n", 1)
	checkSyntax(t, lineI+"cite 0\ncite 2\nx\n", 2)
	checkSyntax(t, lineI+"cite 0\nx\ncite 2\n", 2)
	full := lineI + strings.Repeat(line1, 60)
	if l, line, e := deps.Parse(sample.Sign(), full+lineK); e != api.OK || line != 0 || len(l) != 2 || len(l[0].Proof) != 60 {
		t.Errorf("Parse = %v, %d, %d", l, line, e)
	}
	for _, wrong := range []string{line0, "detach 0 0\n", "cite 9\n", "x", line0 + line0 + lineK} {
		checkSyntax(t, full+wrong, 61)
	}
	twelve := strings.Replace(lineI, "uses k s", "uses "+strings.Join(sample.Names(12), " "), 1)
	if l, line, e := deps.Parse(sample.Sign(), twelve+"cite 11\n"); e != api.OK || line != 0 || len(l) != 1 {
		t.Errorf("Parse = %v, %d, %d", l, line, e)
	}
	checkSyntax(t, twelve+"cite 11\ncite 12\n", 2)
}

// 6.4: a text is too long from 65,537 bytes on, whatever it says, but for a
// wrong sign.
func TestParseLong(t *testing.T) {
	for _, unit := range []string{lineK, "\n", "x", " ", "entry ", line0, "<"} {
		long := strings.Repeat(unit, api.MaxText+1)[:api.MaxText+1]
		if l, line, e := deps.Parse(sample.Sign(), long); e != api.ErrLong || line != 0 || len(l) != 0 {
			t.Errorf("%q: %v, %d, %d", unit, l, line, e)
		}
		if l, line, e := deps.Parse(nil, long); e != api.ErrInvalid || line != 0 || len(l) != 0 {
			t.Errorf("%q: %v, %d, %d", unit, l, line, e)
		}
		want := 0
		if unit == lineK {
			want = 1
		}
		checkSyntax(t, long[:api.MaxText], want)
	}
	l := longLibrary()
	text := deps.Format(sample.Sign(), l)
	if back, line, e := deps.Parse(sample.Sign(), text); len(text) != api.MaxText || e != api.OK || line != 0 || !sample.SameEntries(back, l) {
		t.Errorf("%d bytes: %d, %d", len(text), line, e)
	}
	l[0].By = "bobb"
	text = deps.Format(sample.Sign(), l)
	if back, line, e := deps.Parse(sample.Sign(), text); len(text) != api.MaxText+1 || e != api.ErrLong || line != 0 || len(back) != 0 {
		t.Errorf("%d bytes: %d, %d", len(text), line, e)
	}
}

// longLibrary returns a library with a text of just MaxText bytes.
func longLibrary() []api.Entry {
	uses := sample.Names(12)
	for i, name := range uses {
		uses[i] = strings.Repeat("z", api.MaxName-len(name)) + name
	}
	l := []api.Entry{}
	for _, name := range sample.Names(60) {
		l = append(l, api.Entry{Name: name, By: "bob", Says: sample.Tower(60), Uses: uses, Proof: sample.Doubling(60)})
	}
	for i, x := range slices.Backward(l) {
		for left := len(x.Proof); left > 0 && len(deps.Format(sample.Sign(), l)) > api.MaxText; left-- {
			l[i].Proof = x.Proof[:left]
		}
	}
	for range api.MaxText - len(deps.Format(sample.Sign(), l)) {
		l[0].Name += "a"
	}
	return l
}

// P6.6
func TestParseOfFormat(t *testing.T) {
	s := sample.Sign()
	libraries(1000, 20, func(l []api.Entry) {
		text := deps.Format(s, l)
		if back, line, e := deps.Parse(s, text); e != api.OK || line != 0 || !sample.SameEntries(back, l) {
			t.Errorf("Parse(%q) = %v, %d, %d", text, back, line, e)
		}
	})
}

// checkParse fails unless what is read is what Format writes of it, and the line
// of an error is the first one with which no text begins.
func checkParse(t *testing.T, text string) {
	s := sample.Sign()
	l, line, e := deps.Parse(s, text)
	if e == api.OK {
		if line != 0 || !deps.Valid(s, l) || deps.Format(s, l) != text {
			t.Errorf("Parse(%q) = %v, %d", text, l, line)
		}
		return
	}
	if len(l) != 0 || e != api.ErrSyntax && (e != api.ErrLong || line != 0) {
		t.Errorf("Parse(%q) = %v, %d, %d", text, l, line, e)
	}
	if e != api.ErrSyntax {
		return
	}
	begins := func(text string) bool {
		_, _, e := deps.Parse(s, text)
		_, _, f := deps.Parse(s, text+line0)
		return e == api.OK || f == api.OK
	}
	lines := strings.SplitAfter(text, "\n")
	if !begins(strings.Join(lines[:line], "")) {
		t.Errorf("Parse(%q): the line %d is not the first one", text, line)
	}
	if line < len(lines) && lines[line] != "" && strings.HasSuffix(lines[line], "\n") && begins(strings.Join(lines[:line+1], "")) {
		t.Errorf("Parse(%q): the line %d is right", text, line)
	}
}

// 6.4: texts of libraries with one change.
func TestParseChanged(t *testing.T) {
	var d sample.Dice
	libraries(1000, 8, func(l []api.Entry) {
		lines := strings.SplitAfter(deps.Format(sample.Sign(), l), "\n")
		i, k := d.Roll(len(lines)), d.Roll(len(lines))
		switch d.Roll(5) {
		case 0:
			lines = slices.Delete(lines, i, i+1)
		case 1:
			lines = slices.Insert(lines, i, lines[k])
		case 2:
			lines[i], lines[k] = lines[k], lines[i]
		case 3:
			if len(lines[i]) > 0 {
				at := d.Roll(len(lines[i]))
				lines[i] = lines[i][:at] + string("0 9ax<>\n"[d.Roll(8)]) + lines[i][at+1:]
			}
		case 4:
			lines[i] = lines[i][:d.Roll(len(lines[i])+1)]
		}
		checkParse(t, strings.Join(lines, ""))
	})
}

func FuzzParse(f *testing.F) {
	for _, text := range []string{"", lineK, lineI, lineI + line0, lineK + lineI + line1 + line0 + "detach 0 1\ndetach 2 1\n" + "entry t by a says <f T x0 N x0> uses\n", line0} {
		f.Add(text)
	}
	f.Fuzz(checkParse)
}
