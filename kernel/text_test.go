package kernel_test

import (
	"slices"
	"strconv"
	"strings"
	"testing"

	"lemmary/api"
	"lemmary/kernel"
	"lemmary/sample"
)

// 4.6
func TestFormat(t *testing.T) {
	c, d := sample.Cite, sample.Detach
	tests := []struct {
		p    []api.Step
		text string
	}{
		{sample.Identity(), "cite 1\ncite 0\ndetach 0 1\ndetach 2 1\n"},
		{[]api.Step{c(0)}, "cite 0\n"}, {[]api.Step{c(59)}, "cite 59\n"}, {[]api.Step{c(10), d(0, 0), c(10)}, "cite 10\ndetach 0 0\ncite 10\n"},
		{append(sample.Doubling(12), d(11, 10), d(9, 12)), strings.Join([]string{
			"cite 0", "detach 0 0", "detach 1 1", "detach 2 2", "detach 3 3", "detach 4 4", "detach 5 5", "detach 6 6", "detach 7 7", "detach 8 8", "detach 9 9", "detach 10 10", "detach 11 10", "detach 9 12", ""}, "\n")},
		{slices.Repeat([]api.Step{c(7)}, 60), strings.Repeat("cite 7\n", 60)},
	}
	for _, test := range tests {
		if text := kernel.Format(test.p); text != test.text {
			t.Errorf("Format(%v) = %q", test.p, text)
		}
		if p, line, e := kernel.Parse(test.text); e != api.OK || line != 0 || !slices.Equal(p, test.p) {
			t.Errorf("Parse(%q) = %v, %d, %d", test.text, p, line, e)
		}
	}
}

// 4.6: what no proof has, whatever the number of givens, has no text. A wrong
// proof for two givens is one for more if it just cites one of these.
func TestFormatNothing(t *testing.T) {
	for _, p := range append(sample.WrongProofs(), []api.Step{sample.Cite(60)}, slices.Repeat([]api.Step{sample.Cite(7)}, 61)) {
		if cites := slices.ContainsFunc(p, func(step api.Step) bool { return step == sample.Cite(2) }); cites {
			continue
		}
		if text := kernel.Format(p); text != "" {
			t.Errorf("Format(%v) = %q", p, text)
		}
	}
}

// wrongLines has lines that stand in no text, and such as lack their line feed.
func wrongLines() []string {
	return []string{
		"\n", " \n", "cite\n", "cite \n", "cite 60\n", "cite 61\n", "cite 00\n", "cite 01\n", "cite +1\n", "cite -1\n", "cite -0\n", "cite 1 \n", " cite 1\n", "cite  1\n", "cite 1 0\n", "cite 1 1\n", "cite 1\r\n", "cite\t1\n", "Cite 1\n", "CITE 1\n", "cite1\n", "cite 0x1\n", "cite 1_0\n",
		"cite x\n", "cite ١\n", "cite 18446744073709551616\n", "cite 9223372036854775808\n", "cite 1.\n", "cite 1\x00\n", "cites 1\n", "cit 1\n", "detach\n", "detach \n", "detach 0\n", "detach 0 \n", "detach 0 0 \n", "detach 0 0 0\n", "detach 0  0\n", " detach 0 0\n", "detach 00 0\n", "detach 0 00\n", "detach 0 -0\n", "detach -1 0\n", "detach 0 -1\n", "detach +0 0\n", "detach 0 +0\n", "detach 0,0\n", "detach 0 x\n", "detach x 0\n",
		"Detach 0 0\n", "detached 0 0\n", "detach 0 0\r\n", "1 0\n", "0 0 0\n", "\x00\n", "\xff\n", "cite 1", "cite", "c", " ", "detach 0 0", "detach 0 0 ", "\r", strings.Repeat("9", 1000) + "\n", strings.Repeat("cite 1 ", 1000) + "\n",
	}
}

// 4.6: the number of the first line with which no text begins.
func TestParseSyntax(t *testing.T) {
	check := func(text string, want int) {
		t.Helper()
		if p, line, e := kernel.Parse(text); e != api.ErrSyntax || line != want || len(p) != 0 {
			t.Errorf("Parse(%q) = %v, %d, %d; want the line %d", text, p, line, e, want)
		}
	}
	check("", 0)
	for _, wrong := range wrongLines() {
		for _, before := range []string{"", "cite 0\n", "cite 59\ndetach 0 0\n", "cite 0\ncite 0\ndetach 1 0\n", strings.Repeat("cite 3\n", 59), strings.Repeat("cite 3\n", 60)} {
			text := before + wrong
			check(text, strings.Count(before, "\n"))
			if strings.HasSuffix(wrong, "\n") {
				check(text+"cite 0\n", strings.Count(before, "\n"))
				check(text+"\n", strings.Count(before, "\n"))
				check(text+"x", strings.Count(before, "\n"))
			}
		}
	}
	for i := range 60 {
		before := strings.Repeat("cite 0\n", i)
		for _, k := range []int{i, i + 1, 60, 100} {
			check(before+"detach "+strconv.Itoa(k)+" 0\n", i)
			check(before+"detach 0 "+strconv.Itoa(k)+"\n", i)
		}
		check(before+"cite 0", i)
	}
	check(strings.Repeat("cite 0\n", 61), 60)
	check(strings.Repeat("cite 0\n", 60)+"\n", 60)
	check(strings.Repeat("cite 0\n", 5000), 60)
	check(strings.Repeat("cite 0\n", 70)+"x\n", 60)
	check("cite 0\n\ncite 0\n", 1)
}

// 4.6: a text is too long from 65,537 bytes on, whatever it says.
func TestParseLong(t *testing.T) {
	for _, unit := range []string{"cite 0\n", "\n", "x", " ", "cite "} {
		long := strings.Repeat(unit, api.MaxText+1)[:api.MaxText+1]
		if p, line, e := kernel.Parse(long); e != api.ErrLong || line != 0 || len(p) != 0 {
			t.Errorf("%q: %v, %d, %d", unit, p, line, e)
		}
		want := 0
		if unit == "cite 0\n" {
			want = 60
		}
		if p, line, e := kernel.Parse(long[:api.MaxText]); e != api.ErrSyntax || line != want || len(p) != 0 {
			t.Errorf("%q: %v, %d, %d", unit, p, line, e)
		}
	}
}

// P4.6
func TestParseOfFormat(t *testing.T) {
	shapes(3000, 60, func(p []api.Step) {
		text := kernel.Format(p)
		if back, line, e := kernel.Parse(text); e != api.OK || line != 0 || !slices.Equal(back, p) || strings.Count(text, "\n") != len(p) {
			t.Errorf("Parse(%q) = %v, %d, %d", text, back, line, e)
		}
	})
}

// 4.6: whatever is read is what Format writes of it; the line of an error is
// the first one without which the text is the beginning of another text.
func FuzzParse(f *testing.F) {
	for _, text := range []string{"", "cite 0\n", "cite 1\ncite 0\ndetach 0 1\ndetach 2 1\n", "cite 0\ndetach 0 1\n", "cite 0\ncite 0"} {
		f.Add(text)
	}
	f.Fuzz(func(t *testing.T, text string) {
		p, line, e := kernel.Parse(text)
		if e == api.OK && (line != 0 || len(p) == 0 || kernel.Format(p) != text) {
			t.Errorf("Parse(%q) = %v, %d", text, p, line)
		}
		if e != api.OK && (len(p) != 0 || e != api.ErrSyntax && e != api.ErrLong) {
			t.Errorf("Parse(%q) = %v, %d, %d", text, p, line, e)
		}
		if e != api.ErrSyntax || line == 0 {
			return
		}
		before := strings.Join(strings.SplitAfter(text, "\n")[:line], "")
		if p, _, e := kernel.Parse(before); e != api.OK || len(p) != line {
			t.Errorf("Parse(%q): the line %d, but of %q: %v, %d", text, line, before, p, e)
		}
	})
}
