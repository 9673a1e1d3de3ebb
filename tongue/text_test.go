package tongue_test

import (
	"math"
	"strings"
	"testing"

	"lemmary/api"
	"lemmary/sample"
	"lemmary/tongue"
)

// 3.4
func TestFormat(t *testing.T) {
	tests := []struct {
		d    []api.Way
		want string
	}{
		{flip(), "0:01 1:10"}, {sample.RightWays(), "0:01 1:0 2:- 3:201"}, {[]api.Way{{To: 11}}, "11:-"}, {[]api.Way{{To: 10, Args: []int{2, 1, 0}}, {To: 0}, {To: 0}}, "10:210 0:- 0:-"},
		{make([]api.Way, 12), strings.Repeat("0:- ", 11) + "0:-"}, {[]api.Way{{To: 3, Args: []int{0}}}, "3:0"},
	}
	for _, x := range tests {
		if text := tongue.Format(x.d); text != x.want {
			t.Errorf("Format(%v) = %q", x.d, text)
		}
		if d, e := tongue.Parse(x.want); e != api.OK || !tongue.Same(d, x.d) {
			t.Errorf("Parse(%q) = %v, %d", x.want, d, e)
		}
	}
}

// 3.4
func TestFormatNothing(t *testing.T) {
	wrong := [][]api.Way{
		nil, {}, make([]api.Way, 13), make([]api.Way, 100000), {{To: -1}}, {{To: 12}}, {{To: math.MinInt}}, {{To: math.MaxInt}}, {{To: 0}, {To: 12}},
		{{Args: []int{1}}}, {{Args: []int{-1}}}, {{Args: []int{0, 0}}}, {{Args: []int{0, 2}}}, {{Args: []int{1, 2}}}, {{Args: []int{0, 1, 1}}}, {{Args: []int{0, 1, 3}}}, {{Args: []int{0, 1, 2, 3}}},
		{{Args: []int{math.MinInt, 0, 1}}}, {{Args: []int{math.MaxInt, 0, 1}}}, {{Args: make([]int, 100000)}}, {{To: 1, Args: []int{0, 1}}, {To: 1, Args: []int{0, -1}}},
	}
	for _, d := range wrong {
		if text := tongue.Format(d); text != "" {
			t.Errorf("Format(%v) = %q", d, text)
		}
	}
}

// 3.4: only the texts that Format writes are read; without ways it writes none.
func TestParseSyntax(t *testing.T) {
	wrong := []string{
		"", " ", ":", "0", "0:", ":0", "-", "0:- ", " 0:-", "0:-  1:-", "0:-\n", "0:-\t1:-", "0:-,1:-", "0 :-", "0: -", "0::-", "0:-:", "0:--", "0:-0", "0:0-", "0:0:0",
		"00:-", "01:-", "+1:-", "-1:-", "-0:-", "12:-", "18446744073709551616:-", "0x1:-", "1_0:-", "a:-", "0:1", "0:00", "0:02", "0:12", "0:0123", "0:0,1", "0:0 1", "0:01 1:1", "0:a", "0:\xff", "0:é", "0:0é", "0:٠", "٠:-",
		strings.Repeat("0:- ", 12) + "0:-", "0:" + strings.Repeat("0", 1000),
	}
	for _, text := range wrong {
		if d, e := tongue.Parse(text); e != api.ErrSyntax || len(d) != 0 {
			t.Errorf("Parse(%q) = %v, %d", text, d, e)
		}
	}
}

// 3.4: a text is too long from 65,537 bytes on, whatever it says.
func TestParseLong(t *testing.T) {
	for _, unit := range []string{" ", "0", "0:- ", "-", "\x00", "é"} {
		long := strings.Repeat(unit, api.MaxText+1)[:api.MaxText+1]
		if d, e := tongue.Parse(long); e != api.ErrLong || len(d) != 0 {
			t.Errorf("%q: %v, %d", unit, d, e)
		}
		if d, e := tongue.Parse(long[:api.MaxText]); e != api.ErrSyntax || len(d) != 0 {
			t.Errorf("%q: %v, %d", unit, d, e)
		}
	}
}

// P3.6
func TestParseOfFormat(t *testing.T) {
	journeys(200, func(a, b api.Sign, d []api.Way) {
		if back, e := tongue.Parse(tongue.Format(d)); e != api.OK || !tongue.Same(back, d) {
			t.Errorf("Parse(%q) = %v, %d", tongue.Format(d), back, e)
		}
	})
}

// 3.4: whatever is read is what Format writes of it.
func FuzzParse(f *testing.F) {
	for _, text := range []string{"0:01 1:10", "0:- 11:201", "00:-", "0:0123", "12:-", ""} {
		f.Add(text)
	}
	f.Fuzz(func(t *testing.T, text string) {
		d, e := tongue.Parse(text)
		if e == api.OK && (len(d) == 0 || tongue.Format(d) != text) {
			t.Errorf("Parse(%q) = %v", text, d)
		}
		if e != api.OK && (len(d) != 0 || e != api.ErrSyntax && e != api.ErrLong) {
			t.Errorf("Parse(%q) = %v, %d", text, d, e)
		}
	})
}
