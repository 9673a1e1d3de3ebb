package term_test

import (
	"slices"
	"strings"
	"testing"

	"lemmary/api"
	"lemmary/sample"
	"lemmary/term"
)

// 1.1
func TestValidSign(t *testing.T) {
	for _, s := range sample.RightSigns() {
		if !term.ValidSign(s) {
			t.Errorf("%v is not valid", s)
		}
	}
	for _, s := range sample.WrongSigns() {
		if term.ValidSign(s) {
			t.Errorf("%v is valid", s)
		}
	}
}

// 1.1: every byte is a letter or makes a name that is none.
func TestValidSignLetters(t *testing.T) {
	letters := "abcdefghijklmnopqrstuvwxyzABCDEFGHIJKLMNOPQRSTUVWXYZ"
	for c := range 256 {
		name := string([]byte{byte(c)})
		if got, want := term.ValidSign(api.Sign{{Name: "q" + name, Arity: 2}}), strings.Contains(letters, name); got != want {
			t.Errorf("the name q%q: %v", name, got)
		}
	}
}

// 1.4
func TestFormat(t *testing.T) {
	if text := term.Format(sample.Sign()); text != "C/2 N/1 T/0 f/3" {
		t.Errorf("Format = %q", text)
	}
	if text := term.Format(api.Sign{{Name: "abcdefgh", Arity: 2}}); text != "abcdefgh/2" {
		t.Errorf("Format = %q", text)
	}
	for _, s := range sample.WrongSigns() {
		if text := term.Format(s); text != "" {
			t.Errorf("Format(%v) = %q", s, text)
		}
	}
}

// 1.4, P1.6
func TestParseOfFormat(t *testing.T) {
	for _, s := range sample.RightSigns() {
		got, e := term.Parse(term.Format(s))
		if e != api.OK || !slices.Equal(got, s) {
			t.Errorf("Parse(Format(%v)) = %v, %d", s, got, e)
		}
	}
}

// 1.4: only the texts that Format writes are read.
func TestParseSyntax(t *testing.T) {
	wrong := []string{
		"", " ", "/", "/2", "C", "C/", "C/2 ", " C/2", "C/2  N/1", "C/2\n", "C/2\tN/1", "C/2,N/1", "C /2", "C/ 2",
		"C/02", "C/+2", "C/-2", "C/2.0", "C/2/1", "C//2", "C/\xb2", "C/2 N/4", "C/2 N/9", "C/2 N/10", "C/2 N/-1", "C/2 N/:", "C/2 N/ 1",
		"C/1", "C/0 N/2", "C/2 C/2", "C/2 N/1 C/0", "C1/2", "C/2 _/1", "C/2 abcdefghi/1", "C/2 /1", "Ä/2", "C/2 N/1 ä/1",
		"C/2 a/0 b/0 c/0 d/0 e/0 f/0 g/0 h/0 i/0 j/0 k/0 l/0", "C/2 N/18446744073709551617",
	}
	for _, text := range wrong {
		if s, e := term.Parse(text); e != api.ErrSyntax || len(s) != 0 {
			t.Errorf("Parse(%q) = %v, %d", text, s, e)
		}
	}
}

// 1.4: a text is too long from 65,537 bytes on, whatever it says.
func TestParseLong(t *testing.T) {
	for _, unit := range []string{" ", "C", "C/2 ", "\x00"} {
		text := strings.Repeat(unit, api.MaxText)
		if s, e := term.Parse(text[:api.MaxText]); e != api.ErrSyntax || len(s) != 0 {
			t.Errorf("%q, %d bytes: %v, %d", unit, api.MaxText, s, e)
		}
		text = (text + " ")[:api.MaxText+1]
		if s, e := term.Parse(text); e != api.ErrLong || len(s) != 0 {
			t.Errorf("%q, %d bytes: %v, %d", unit, api.MaxText+1, s, e)
		}
	}
}

// 1.4: whatever is read is what Format writes of it.
func FuzzParse(f *testing.F) {
	for _, text := range []string{"C/2", "C/2 N/1 T/0 f/3", "C/02", "C/2 C/2", "C/2 c/0 ", ""} {
		f.Add(text)
	}
	f.Fuzz(func(t *testing.T, text string) {
		s, e := term.Parse(text)
		if e == api.OK && (!term.ValidSign(s) || term.Format(s) != text) {
			t.Errorf("Parse(%q) = %v", text, s)
		}
		if e != api.OK && (len(s) != 0 || e != api.ErrSyntax && e != api.ErrLong) {
			t.Errorf("Parse(%q) = %v, %d", text, s, e)
		}
	})
}
