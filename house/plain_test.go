package house_test

import (
	"strings"
	"testing"

	"lemmary/api"
	"lemmary/house"
	"lemmary/sample"
	"lemmary/tongue"
)

// 10.1
func TestPlain(t *testing.T) {
	s := sample.Sign()
	tests := []struct {
		t    api.Term
		text string
	}{
		{sample.K(), "(x0->(x1->x0))"}, {sample.S(), "((x0->(x1->x2))->((x0->x1)->(x0->x2)))"}, {api.Term{-1}, "x0"}, {api.Term{-12}, "x11"}, {api.Term{2}, "T"}, {api.Term{1, -3}, "N(x2)"},
		{api.Term{0, -6, -6}, "(x5->x5)"}, {api.Term{3, -1, 2, -3}, "f(x0,T,x2)"}, {api.Term{3, 0, -1, 2, 1, 2, 3, -1, -1, -1}, "f((x0->T),N(T),f(x0,x0,x0))"}, {api.Term{1, 0, 1, -2, 2}, "N((N(x1)->T))"},
	}
	for _, test := range tests {
		if text, e := house.Plain(s, test.t); text != test.text || e != api.OK {
			t.Errorf("Plain(%v) = %q, %d", test.t, text, e)
		}
		if back, e := house.Unplain(s, test.text); !equal(back, test.t) || e != api.OK {
			t.Errorf("Unplain(%q) = %v, %d", test.text, back, e)
		}
	}
	for _, u := range append(sample.SmallTerms(s, 5, 0, 1, 11), sample.RandomTerms(s, 2000)...) {
		arrows, _ := tongue.Write(s, 2, u)
		text, e := house.Plain(s, u)
		if e != api.OK || text != strings.Join(strings.Fields(arrows), "") {
			t.Errorf("Plain(%v) = %q, %d", u, text, e)
		}
		if back, e := house.Unplain(s, text); e != api.OK || !equal(back, u) {
			t.Errorf("Unplain(%q) = %v, %d", text, back, e)
		}
	}
}

func equal(t, u api.Term) bool {
	return len(t) > 0 && sample.SameEntries([]api.Entry{{Says: t}}, []api.Entry{{Says: u}})
}

// 10.1: names may be as long as they can be, and be called as anything else in a
// Text is.
func TestPlainOfOtherSigns(t *testing.T) {
	s := api.Sign{{Name: "axiom", Arity: 2}, {Name: "x", Arity: 1}, {Name: "aZzAabcd", Arity: 3}, {Name: "prove"}}
	text := "(x(x0)->aZzAabcd(prove,x(x11),(x0->x0)))"
	u := api.Term{0, 1, -1, 2, 3, 1, -12, 0, -1, -1}
	if got, e := house.Plain(s, u); got != text || e != api.OK {
		t.Errorf("Plain = %q, %d", got, e)
	}
	if back, e := house.Unplain(s, text); !equal(back, u) || e != api.OK {
		t.Errorf("Unplain = %v, %d", back, e)
	}
	if back, e := house.Unplain(sample.Sign(), text); len(back) > 0 || e != api.ErrSyntax {
		t.Errorf("Unplain = %v, %d", back, e)
	}
}

// 10.1: ErrSyntax of what Plain does not return.
func TestUnplainOfOthers(t *testing.T) {
	s := sample.Sign()
	wrong := []string{
		"", " ", "(x0 -> x1)", "(x0-> x1)", "(x0 ->x1)", "(x0- >x1)", " x0", "x0 ", "x 0", "N (x0)", "N( x0)", "N(x0 )", "f(x0, x1, x2)", "f(x0,x1, x2)", "f(x0 ,x1,x2)",
		"x", "x12", "x01", "x-1", "X0", "x0x1", "x0,x1", "C", "N", "f", "t", "()", "(x0)", "(x0->x1", "x0->x1", "(x0->x1))", "((x0->x1)", "(x0->x1->x2)", "(x0-x1)", "(x0>x1)", "(x0->)", "(->x0)", "->", "-", ",", "(x0=>x1)",
		"C(x0,x1)", "T()", "N()", "N(x0,x1)", "f(x0)", "f(x0,x1)", "f(x0,x1,x2,x3)", "f(x0,,x1)", "f(x0,x1,x2", "N[x0]", "N x0", "C x0 x1", "[C x0 x1]", "Nx0", "x0\n", "\nx0", "x0\x00", "x0\r", "(x0→x1)", "ｘ0",
		strings.Repeat("N(", 60) + "T" + strings.Repeat(")", 60), // 61 numbers
		strings.Repeat(",", 40000), strings.Repeat("->", 32768), strings.Repeat("(", 65536), strings.Repeat(" ", 65536),
	}
	for _, text := range wrong {
		if u, e := house.Unplain(s, text); len(u) > 0 || e != api.ErrSyntax {
			t.Errorf("Unplain(%.80q) = %v, %d", text, u, e)
		}
	}
	if u, e := house.Unplain(s, strings.Repeat("N(", 59)+"T"+strings.Repeat(")", 59)); !equal(u, sample.Tower(60)) || e != api.OK {
		t.Errorf("Unplain of 60 numbers: %v, %d", u, e)
	}
	for _, text := range []string{strings.Repeat("x", 65537), strings.Repeat(" ", 65537), "x0" + strings.Repeat(" ", 100000), strings.Repeat(",", 1<<20)} {
		if u, e := house.Unplain(s, text); len(u) > 0 || e != api.ErrLong {
			t.Errorf("Unplain of %d bytes: %v, %d", len(text), u, e)
		}
	}
}

// 10.1: a text that Unplain takes is what Plain returns: of texts that differ
// from such a one in a byte.
func TestUnplainOfChanged(t *testing.T) {
	s := sample.Sign()
	for _, text := range []string{"(x0->(x1->x0))", "f((x10->T),N(x1),f(x0,x0,x0))", "N(N(T))"} {
		for i := range len(text) {
			for c := range 256 {
				checkUnplain(t, s, text[:i]+string([]byte{byte(c)})+text[i+1:])
				checkUnplain(t, s, text[:i]+string([]byte{byte(c)})+text[i:])
			}
			checkUnplain(t, s, text[:i]+text[i+1:])
		}
	}
}

// checkUnplain fails unless Unplain takes a text just if Plain returns it.
func checkUnplain(t *testing.T, s api.Sign, text string) {
	t.Helper()
	u, e := house.Unplain(s, text)
	if e != api.OK {
		if e != api.ErrSyntax && e != api.ErrLong || len(u) > 0 {
			t.Errorf("Unplain(%q) = %v, %d", text, u, e)
		}
		return
	}
	if back, e := house.Plain(s, u); back != text || e != api.OK {
		t.Errorf("Unplain(%q) = %v, which is %q, %d", text, u, back, e)
	}
}

// 10.1, R1
func FuzzUnplain(f *testing.F) {
	for _, text := range []string{"", "x0", "(x0->(x1->x0))", "f(x0,N(T),(T->x11))", "(x0 -> x1)"} {
		f.Add(text)
	}
	f.Fuzz(func(t *testing.T, text string) { checkUnplain(t, sample.Sign(), text) })
}
