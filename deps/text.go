package deps

import (
	"slices"
	"strings"

	"lemmary/api"
	"lemmary/kernel"
	"lemmary/term"
)

// Format returns the text of a library, which is empty if it is not valid.
func Format(s api.Sign, l []api.Entry) string {
	known, e := opened(s, l)
	if e != api.OK {
		return ""
	}
	var text strings.Builder
	for _, x := range l {
		text.WriteString(known.claim(x))
		text.WriteString(kernel.Format(x.Proof))
	}
	return text.String()
}

// claimWord is the word with which lines of entries begin.
const claimWord = "entry"

// claim returns the line of an entry, with its line feed.
func (s sign) claim(x api.Entry) string {
	words := []string{claimWord, x.Name, "by", x.By, "says", "<" + s.polish(x.Says) + ">", "uses"}
	return strings.Join(append(words, x.Uses...), " ") + "\n"
}

// claimed returns the entry, but for its proof, of which a line is the line. The
// line is read with little care: that it is just that of the entry decides.
func (s sign) claimed(line string) (x api.Entry, ok bool) {
	head, rest, _ := strings.Cut(line, "<")
	says, tail, _ := strings.Cut(rest, ">")
	heads, tails := strings.Fields(head), strings.Fields(tail)
	if len(heads) < 4 || len(tails) < 1 {
		return api.Entry{}, false
	}
	x = api.Entry{Name: heads[1], By: heads[3], Says: s.meant(says), Uses: tails[1:]}
	return x, validClaim(api.Sign(s), x) && s.claim(x) == line
}

// Parse reads the text of a valid library, as Format returns it. Where it finds
// an error, it returns the number of the first line that no library has there.
func Parse(s api.Sign, text string) (l []api.Entry, line int, e api.Errno) {
	if !term.ValidSign(s) {
		return nil, 0, api.ErrInvalid
	}
	if len(text) > api.MaxText {
		return nil, 0, api.ErrLong
	}
	left := linesOf(text)
	taken := map[string]bool{}
	for len(left) > 0 {
		x, ok := sign(s).claimed(left[0])
		if !ok || taken[x.Name] || len(l) == api.MaxEntries {
			return nil, line, api.ErrSyntax
		}
		taken[x.Name] = true
		lines := proofLines(left[1:])
		var wrong int
		x.Proof, wrong, ok = proved(len(x.Uses), lines)
		line++
		if !ok {
			return nil, line + wrong, api.ErrSyntax
		}
		l = append(l, x)
		line += len(lines)
		left = left[1+len(lines):]
	}
	return l, 0, api.OK
}

// linesOf returns the lines of a text, with their line feeds, of which the last
// one may lack its own.
func linesOf(text string) []string {
	lines := strings.SplitAfter(text, "\n")
	if last := len(lines) - 1; lines[last] == "" {
		return lines[:last]
	}
	return lines
}

// proofLines returns the lines that stand before the next entry.
func proofLines(lines []string) []string {
	isClaim := func(line string) bool { return strings.HasPrefix(line, claimWord) }
	if next := slices.IndexFunc(lines, isClaim); next >= 0 {
		return lines[:next]
	}
	return lines
}

// proved returns the proof for so many givens that lines are, or the index of
// the first line that no such proof has there.
func proved(givens int, lines []string) (p []api.Step, wrong int, ok bool) {
	if givens == 0 && len(lines) == 0 {
		return nil, 0, true
	}
	p, wrong, e := kernel.Parse(strings.Join(lines, ""))
	if e != api.OK {
		p, _, _ = kernel.Parse(strings.Join(lines[:wrong], ""))
	}
	citesNone := func(step api.Step) bool { return step.Kind == api.SCite && step.A >= givens }
	if i := slices.IndexFunc(p, citesNone); i >= 0 {
		return nil, i, false
	}
	return p, wrong, e == api.OK
}
