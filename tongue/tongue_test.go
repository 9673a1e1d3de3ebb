package tongue_test

import (
	"math"
	"slices"
	"strings"
	"testing"

	"lemmary/api"
	"lemmary/sample"
	"lemmary/tongue"
)

// written has a term of the sign C/2 N/1 T/0 f/3, and its text in each tongue.
type written struct {
	t     api.Term
	texts [3]string
}

func examples() []written {
	return []written{
		{api.Term{-1}, [3]string{"x0", "x0", "x0"}},
		{api.Term{-12}, [3]string{"x11", "x11", "x11"}},
		{api.Term{2}, [3]string{"T", "T", "T"}},
		{api.Term{1, 2}, [3]string{"N T", "N(T)", "[N T]"}},
		{api.Term{0, -1, 1, -2}, [3]string{"C x0 N x1", "(x0 -> N(x1))", "[C x0 [N x1]]"}},
		{api.Term{0, 0, -1, 2, -11}, [3]string{"C C x0 T x10", "((x0 -> T) -> x10)", "[C [C x0 T] x10]"}},
		{api.Term{1, 0, -1, -2}, [3]string{"N C x0 x1", "N((x0 -> x1))", "[N [C x0 x1]]"}},
		{api.Term{3, 2, 0, -1, 2, 1, 1, -3}, [3]string{"f T C x0 T N N x2", "f(T, (x0 -> T), N(N(x2)))", "[f T [C x0 T] [N [N x2]]]"}},
		{api.Term{3, 3, 2, 2, 2, 2, 2}, [3]string{"f f T T T T T", "f(f(T, T, T), T, T)", "[f [f T T T] T T]"}},
		{sample.Tower(60), [3]string{strings.Repeat("N ", 59) + "T", strings.Repeat("N(", 59) + "T" + strings.Repeat(")", 59), strings.Repeat("[N ", 59) + "T" + strings.Repeat("]", 59)}},
	}
}

// 3.1
func TestWriteAndRead(t *testing.T) {
	s := sample.Sign()
	for _, x := range examples() {
		for i, want := range x.texts {
			if text, e := tongue.Write(s, i+1, x.t); text != want || e != api.OK {
				t.Errorf("Write(%d, %v) = %q, %d", i+1, x.t, text, e)
			}
			if u, e := tongue.Read(s, i+1, want); !slices.Equal(u, x.t) || e != api.OK {
				t.Errorf("Read(%d, %q) = %v, %d", i+1, want, u, e)
			}
		}
	}
}

// 3.1: a symbol may be called like the beginning of a variable, or differ from
// another one only in small and great letters.
func TestNames(t *testing.T) {
	s := api.Sign{{Name: "x", Arity: 2}, {Name: "X", Arity: 2}, {Name: "xx", Arity: 1}, {Name: "Xx"}}
	tests := []written{
		{api.Term{0, -1, 3}, [3]string{"x x0 Xx", "(x0 -> Xx)", "[x x0 Xx]"}},
		{api.Term{1, -1, 2, -2}, [3]string{"X x0 xx x1", "X(x0, xx(x1))", "[X x0 [xx x1]]"}},
	}
	for _, x := range tests {
		for i, want := range x.texts {
			if text, e := tongue.Write(s, i+1, x.t); text != want || e != api.OK {
				t.Errorf("Write(%d, %v) = %q, %d", i+1, x.t, text, e)
			}
			if u, e := tongue.Read(s, i+1, want); !slices.Equal(u, x.t) || e != api.OK {
				t.Errorf("Read(%d, %q) = %v, %d", i+1, want, u, e)
			}
		}
	}
}

// P3.2
func TestReadOfWrite(t *testing.T) {
	for _, s := range signs() {
		for _, u := range terms(s) {
			for number := 1; number <= 3; number++ {
				text, e := tongue.Write(s, number, u)
				if want, ok := parsed(s, number, text); e != api.OK || !ok || !slices.Equal(want, u) {
					t.Errorf("Write(%d, %v) = %q, %d", number, u, text, e)
				}
				if back, e := tongue.Read(s, number, text); e != api.OK || !slices.Equal(back, u) {
					t.Errorf("Read(%d, %q) = %v, %d", number, text, back, e)
				}
			}
		}
	}
}

// wrongTexts has texts that are no terms of the sign C/2 N/1 T/0 f/3 in any
// tongue.
func wrongTexts() []string {
	return []string{
		"", " ", "x", "x-1", "x12", "x01", "x00", "x+1", "x1.", "X1", "x 1", "x18446744073709551616", "x0 ", " x0", "x0\n", "x0\x00", "x0x0", "x0 x0", "x0T", "T0", "0",
		"t", "TT", "(x0)", "[x0]", "(T)", "[T]", "T()", "T(", "()", "[]", "(", ")", "[", "]", "->", ",", "x0()", "x0(T)", "[x0 T]",
		"N", "C", "f", "C x0", "N(x0, x1)", "[N x0 x1]", "N x0 x1", "C x0 x1 x2", "C N x0", "f T T", "f T T T T", "E x0", "E(x0)", "[E x0]", "E",
		"C(x0, x1)", "C(x0 -> x1)", "C (x0 -> x1)", "[(x0 -> x1)]", "(C x0 x1)", "[x0 -> x1]", "[C x0 -> x1]", "N[x0]", "(N x0)", "[N(x0)]", "N (x0)", "N( x0)", "N(x0 )",
		"(x0->x1)", "(x0  -> x1)", "(x0 ->  x1)", "(x0 -> x1", "x0 -> x1", "( x0 -> x1)", "(x0 -> x1 )", "((x0 -> x1))", "(x0 -> x1 -> x2)", "(x0 -> )", "( -> x0)", "(x0 - > x1)", "(x0 → x1)",
		"f(x0,x1,x2)", "f(x0, x1)", "f(x0, x1, x2, x3)", "f(x0, x1, x2,)", "f(x0; x1; x2)", "[f x0, x1, x2]", "[N x0]]", "[[N x0]", "[[N x0]]", "[ N x0]", "[N x0 ]", "[N  x0]", "[N\tx0]", "N  x0", "N\tx0", "N x0 ", " N x0", "N,x0", "N\xffx0", "\xffN x0", "N\u00a0x0", "Ñ x0", "N x０",
		strings.Repeat("N ", 60) + "T", strings.Repeat("N(", 60) + "T" + strings.Repeat(")", 60), strings.Repeat("[N ", 60) + "T" + strings.Repeat("]", 60),
	}
}

// 3.1
func TestReadSyntax(t *testing.T) {
	for _, text := range wrongTexts() {
		for number := 1; number <= 3; number++ {
			if u, e := tongue.Read(sample.Sign(), number, text); e != api.ErrSyntax || len(u) != 0 {
				t.Errorf("Read(%d, %q) = %v, %d", number, text, u, e)
			}
			if u, e := tongue.Translate(sample.Sign(), number, 1, text); e != api.ErrSyntax || u != "" {
				t.Errorf("Translate(%d, 1, %q) = %v, %d", number, text, u, e)
			}
		}
	}
}

// 3.1: a text of one tongue is none of another one, unless it has no signs.
func TestOtherTongue(t *testing.T) {
	for _, x := range examples() {
		for i, text := range x.texts {
			for k, other := range x.texts {
				u, e := tongue.Read(sample.Sign(), k+1, text)
				if same := text == other; same != (e == api.OK) || same != slices.Equal(u, x.t) {
					t.Errorf("Read(%d, %q), of tongue %d = %v, %d", k+1, text, i+1, u, e)
				}
			}
		}
	}
}

// edits calls visit with all texts that one byte more, less or other makes.
func edits(text, bytes string, visit func(string)) {
	for at := range len(text) + 1 {
		for i := range len(bytes) {
			visit(text[:at] + bytes[i:i+1] + text[at:])
			if at < len(text) {
				visit(text[:at] + bytes[i:i+1] + text[at+1:])
			}
		}
		if at < len(text) {
			visit(text[:at] + text[at+1:])
		}
	}
}

// P3.2: what is read is what Write writes, and nothing else is.
func TestEditedTexts(t *testing.T) {
	s := sample.Sign()
	small := sample.SmallTerms(s, 4, 0, 10)
	some := map[bool]int{}
	for _, u := range append(small, terms(s)[:40]...) {
		for number := 1; number <= 3; number++ {
			text, _ := tongue.Write(s, number, u)
			edits(text, "CNTfx012() ->,[]\xff", func(text string) {
				want, ok := parsed(s, number, text)
				got, e := tongue.Read(s, number, text)
				if ok != (e == api.OK) || !ok && e != api.ErrSyntax || !slices.Equal(got, want) {
					t.Errorf("Read(%d, %q) = %v, %d", number, text, got, e)
				}
				some[ok]++
			})
		}
	}
	if some[true] < 1000 || some[false] < 1000 {
		t.Error(some)
	}
}

// 3.1: a text is too long from 65,537 bytes on, whatever it says; wrong tongues
// come first, and wrong signs before them.
func TestReadErrors(t *testing.T) {
	s, wrong := sample.Sign(), api.Sign{}
	for _, unit := range []string{" ", "(", "[", "x0 ", "C ", "N(", "x0 -> ", "\x00", "é", "a"} {
		long := strings.Repeat(unit, api.MaxText+1)[:api.MaxText+1]
		for number := 1; number <= 3; number++ {
			if u, e := tongue.Read(s, number, long); e != api.ErrLong || len(u) != 0 {
				t.Errorf("%q: %v, %d", unit, u, e)
			}
			if u, e := tongue.Read(s, number, long[:api.MaxText]); e != api.ErrSyntax || len(u) != 0 {
				t.Errorf("%q: %v, %d", unit, u, e)
			}
			if u, e := tongue.Translate(s, number, 2, long); e != api.ErrLong || u != "" {
				t.Errorf("%q: %v, %d", unit, u, e)
			}
			if _, e := tongue.Read(wrong, number, long); e != api.ErrInvalid {
				t.Errorf("%q: %d", unit, e)
			}
		}
		for _, number := range wrongTongues() {
			if u, e := tongue.Read(s, number, long); e != api.ErrRange || len(u) != 0 {
				t.Errorf("%d, %q: %v, %d", number, unit, u, e)
			}
		}
	}
}

func wrongTongues() []int {
	return []int{0, 4, -1, math.MinInt, math.MaxInt}
}

// 3.1: ErrRange comes behind ErrInvalid, and before all else.
func TestWrongTongues(t *testing.T) {
	s, wrong := sample.Sign(), api.Sign{}
	for _, number := range wrongTongues() {
		if text, e := tongue.Write(s, number, api.Term{-1}); e != api.ErrRange || text != "" {
			t.Errorf("Write(%d) = %q, %d", number, text, e)
		}
		if text, e := tongue.Write(s, number, api.Term{0}); e != api.ErrInvalid || text != "" {
			t.Errorf("Write(%d) = %q, %d", number, text, e)
		}
		for _, text := range []string{"x0", "?"} {
			if u, e := tongue.Read(s, number, text); e != api.ErrRange || len(u) != 0 {
				t.Errorf("Read(%d, %q) = %v, %d", number, text, u, e)
			}
			if u, e := tongue.Read(wrong, number, text); e != api.ErrInvalid || len(u) != 0 {
				t.Errorf("Read(%d, %q) = %v, %d", number, text, u, e)
			}
			for _, from := range []int{1, number} {
				if u, e := tongue.Translate(s, from, number, text); e != api.ErrRange || u != "" {
					t.Errorf("Translate(%d, %d, %q) = %q, %d", from, number, text, u, e)
				}
				if u, e := tongue.Translate(wrong, number, from, text); e != api.ErrInvalid || u != "" {
					t.Errorf("Translate(%d, %d, %q) = %q, %d", number, from, text, u, e)
				}
			}
			if u, e := tongue.Translate(s, number, 1, text); e != api.ErrRange || u != "" {
				t.Errorf("Translate(%d, 1, %q) = %q, %d", number, text, u, e)
			}
		}
	}
}

// 3.1, P3.2: translating there and back changes nothing.
func TestTranslate(t *testing.T) {
	for _, x := range examples() {
		for i, from := range x.texts {
			for k, to := range x.texts {
				if text, e := tongue.Translate(sample.Sign(), i+1, k+1, from); text != to || e != api.OK {
					t.Errorf("Translate(%d, %d, %q) = %q, %d", i+1, k+1, from, text, e)
				}
			}
		}
	}
	for _, s := range signs() {
		for _, u := range terms(s) {
			text, _ := tongue.Write(s, 2, u)
			there, e := tongue.Translate(s, 2, 3, text)
			back, f := tongue.Translate(s, 3, 2, there)
			if e != api.OK || f != api.OK || back != text {
				t.Errorf("%q, %q, %q, %d, %d", text, there, back, e, f)
			}
		}
	}
}

// P3.2: a text that Read takes is what Write writes of its term.
func FuzzRead(f *testing.F) {
	for _, x := range examples() {
		for i, text := range x.texts {
			f.Add(i+1, text)
		}
	}
	f.Fuzz(func(t *testing.T, number int, text string) {
		u, e := tongue.Read(sample.Sign(), number, text)
		if e != api.OK {
			if len(u) != 0 || e != api.ErrSyntax && e != api.ErrLong && e != api.ErrRange {
				t.Errorf("Read(%d, %q) = %v, %d", number, text, u, e)
			}
			return
		}
		if back, e := tongue.Write(sample.Sign(), number, u); back != text || e != api.OK {
			t.Errorf("Write(%d, %v) = %q, %d, not %q", number, u, back, e, text)
		}
	})
}
