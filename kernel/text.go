package kernel

import (
	"strconv"
	"strings"

	"lemmary/api"
)

// Format returns the text of a proof, which is empty if it is no proof, however
// many givens there are.
func Format(p []api.Step) string {
	if !ValidProof(api.MaxList, p) {
		return ""
	}
	var text strings.Builder
	for _, step := range p {
		text.WriteString(written(step))
	}
	return text.String()
}

// written returns the line of a step, with its line feed.
func written(step api.Step) string {
	if step.Kind == api.SCite {
		return "cite " + strconv.Itoa(step.A) + "\n"
	}
	return "detach " + strconv.Itoa(step.A) + " " + strconv.Itoa(step.B) + "\n"
}

// Parse reads the text of a proof, as Format returns it. Where it finds an
// error, it returns the number of the first line that no proof has there.
func Parse(text string) (p []api.Step, line int, e api.Errno) {
	if len(text) > api.MaxText {
		return nil, 0, api.ErrLong
	}
	for i, words := range strings.SplitAfter(text, "\n") {
		if words == "" && i > 0 {
			break // behind the last line feed
		}
		step := meant(words)
		if i >= api.MaxSteps || !validStep(api.MaxList, i, step) || written(step) != words {
			return nil, i, api.ErrSyntax
		}
		p = append(p, step)
	}
	return p, 0, api.OK
}

// meant returns the step that a line could be the line of. It is read with
// little care: that the line is just that of the step decides.
func meant(words string) api.Step {
	kind, rest, _ := strings.Cut(strings.TrimSuffix(words, "\n"), " ")
	a, b, _ := strings.Cut(rest, " ")
	if kind == "cite" {
		return api.Step{Kind: api.SCite, A: number(a)}
	}
	return api.Step{Kind: api.SDetach, A: number(a), B: number(b)}
}

// number returns the number that a word is, or some other one.
func number(word string) int {
	x, _ := strconv.Atoi(word)
	return x
}
