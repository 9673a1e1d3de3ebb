package kernel

import (
	"strings"

	"lemmary/api"
)

// The letters with which the parts of a tree begin.
const (
	citeLetter   = 'g'
	detachLetter = 'D'
)

// citeSize is how many bytes a citation has in a tree.
const citeSize = 3

// Tree returns the text of the tree of a proof's last step.
func Tree(givens int, p []api.Step) (string, api.Errno) {
	if !ValidProof(givens, p) {
		return "", api.ErrInvalid
	}
	if treeSize(p) > api.MaxText {
		return "", api.ErrLong
	}
	var text strings.Builder
	var write func(i int)
	write = func(i int) {
		step := p[i]
		if step.Kind == api.SCite {
			text.Write([]byte{citeLetter, byte('0' + step.A/10), byte('0' + step.A%10)})
			return
		}
		text.WriteByte(detachLetter)
		write(step.A)
		write(step.B)
	}
	write(len(p) - 1)
	return text.String(), api.OK
}

// treeSize returns how many bytes the tree of a valid proof has: a tree has one
// citation more than detachments, which have one byte each.
func treeSize(p []api.Step) int {
	detachments := counted(p) / 2
	return detachments + citeSize*(detachments+1)
}

// Untree returns the proof of which a text is the tree.
func Untree(givens int, text string) ([]api.Step, api.Errno) {
	if !validNumber(givens) {
		return nil, api.ErrInvalid
	}
	if len(text) > api.MaxText {
		return nil, api.ErrLong
	}
	p, whole := planted(givens, text)
	if !whole {
		return nil, api.ErrSyntax
	}
	if len(p) > api.MaxSteps {
		return nil, api.ErrLimit
	}
	return p, api.OK
}

// planted returns the steps, however many, of a text that is a whole tree. A
// step tells the part that it stands for from all others, as its indexes tell
// the parts of that part.
func planted(givens int, text string) (p []api.Step, whole bool) {
	known := map[api.Step]int{}
	rest := text
	var read func() (i int, found bool)
	read = func() (i int, found bool) {
		step := api.Step{Kind: api.SCite}
		if len(rest) > 0 && rest[0] == detachLetter {
			rest = rest[1:]
			step.Kind = api.SDetach
			step.A, found = read()
			if found {
				step.B, found = read()
			}
		} else {
			step.A, found = citation(givens, rest)
			rest = rest[min(citeSize, len(rest)):]
		}
		if !found {
			return 0, false
		}
		i, met := known[step]
		if !met {
			i = len(p)
			known[step] = i
			p = append(p, step)
		}
		return i, true
	}
	_, found := read()
	return p, found && rest == ""
}

// citation returns the given that a text cites with its first letters.
func citation(givens int, text string) (given int, found bool) {
	if len(text) < citeSize || text[0] != citeLetter || !isDigit(text[1]) || !isDigit(text[2]) {
		return 0, false
	}
	given = 10*int(text[1]-'0') + int(text[2]-'0')
	return given, given < givens
}

func isDigit(c byte) bool {
	return '0' <= c && c <= '9'
}
