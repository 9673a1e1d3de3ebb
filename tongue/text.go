package tongue

import (
	"strconv"
	"strings"

	"lemmary/api"
)

// noArgs stands in texts for a way without arguments.
const noArgs = "-"

// Format returns the text of ways, which is empty if there are none, or if they
// are not of the size and the kind that the ways of signs can be of.
func Format(d []api.Way) string {
	if len(d) > api.MaxSymbols {
		return ""
	}
	words := make([]string, len(d))
	for i, way := range d {
		if way.To < 0 || way.To >= api.MaxSymbols || len(way.Args) > api.MaxArity || !complete(way.Args) {
			return ""
		}
		words[i] = strconv.Itoa(way.To) + ":" + formatArgs(way.Args)
	}
	return strings.Join(words, " ")
}

func formatArgs(args []int) string {
	if len(args) == 0 {
		return noArgs
	}
	text := ""
	for _, arg := range args {
		text += strconv.Itoa(arg)
	}
	return text
}

// Parse reads the text of ways, as Format returns it. What a text could say is
// read with little care: that the text is just that of what was read decides.
func Parse(text string) ([]api.Way, api.Errno) {
	if len(text) > api.MaxText {
		return nil, api.ErrLong
	}
	words := strings.Split(text, " ")
	d := make([]api.Way, len(words))
	for i, word := range words {
		to, args, _ := strings.Cut(word, ":")
		number, err := strconv.Atoi(to)
		if err != nil {
			return nil, api.ErrSyntax
		}
		d[i] = api.Way{To: number, Args: parseArgs(args)}
	}
	if Format(d) != text {
		return nil, api.ErrSyntax
	}
	return d, api.OK
}

func parseArgs(text string) []int {
	if text == noArgs {
		return nil
	}
	args := make([]int, len(text))
	for k := range args {
		args[k] = int(text[k]) - '0'
	}
	return args
}
