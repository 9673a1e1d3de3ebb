package house

import (
	"bytes"
	"iter"
	"strconv"
	"strings"

	"lemmary/api"
)

// book is the lines that tell what was done.
type book []api.Line

// last returns the last line of the book, or what stands before a first line.
func (b book) last() api.Line {
	if len(b) == 0 {
		return api.Line{Number: -1}
	}
	return b[len(b)-1]
}

// behind returns the line with a Text that comes behind another line.
func behind(last api.Line, text string) api.Line {
	number := last.Number + 1
	told := joined(strconv.FormatUint(last.Sum, 10), strconv.Itoa(number), text)
	return api.Line{Number: number, Text: text, Sum: hash(told)}
}

// hash returns the 64-bit hash of a text.
func hash(text string) uint64 {
	sum := uint64(14695981039346656037)
	for i := range len(text) {
		sum ^= uint64(text[i])
		sum *= 1099511628211
	}
	return sum
}

// written returns what a line is in the bytes of a book.
func written(line api.Line) string {
	return joined(strconv.Itoa(line.Number), strconv.FormatUint(line.Sum, 10), line.Text) + "\n"
}

// bytes returns the bytes of the book.
func (b book) bytes() []byte {
	all := []byte{}
	for _, line := range b {
		all = append(all, written(line)...)
	}
	return all
}

// Read returns the house that the bytes of a book make.
func Read(s api.Sign, b []byte) (*House, api.Errno) {
	h, e := New(s)
	if e != api.OK {
		return nil, e
	}
	all := book{}
	for line, e := range lines(b) {
		if e != api.OK {
			return nil, e
		}
		all = append(all, line)
	}
	for _, line := range all {
		if !h.again(line) {
			return nil, api.ErrState
		}
	}
	return h, api.OK
}

// lines gives the lines of the bytes of a book. At the first one that does not
// fit, or is one too many, it gives the error, and ends.
func lines(b []byte) iter.Seq2[api.Line, api.Errno] {
	return func(yield func(api.Line, api.Errno) bool) {
		last := book{}.last()
		for text := range bytes.Lines(b) {
			if !bytes.HasSuffix(text, []byte("\n")) {
				return
			}
			line, e := fitted(last, string(text))
			if !yield(line, e) || e != api.OK {
				return
			}
			last = line
		}
	}
}

// fitted returns the line that was written as a text behind another line: what
// is written of the line that its Text makes there decides.
func fitted(last api.Line, text string) (api.Line, api.Errno) {
	parts := strings.SplitN(strings.TrimSuffix(text, "\n"), " ", 3)
	line := behind(last, parts[len(parts)-1])
	if line.Text == "" || written(line) != text {
		return api.Line{}, api.ErrChain
	}
	if line.Number == api.MaxLines {
		return api.Line{}, api.ErrLimit
	}
	return line, api.OK
}

// again does the command that made a line, and reports whether it makes this line
// again.
func (h *House) again(line api.Line) bool {
	words, cut := cutWords(line.Text)
	if !cut {
		return false
	}
	c, is := read(h.sign, words)
	return is && h.do(c) == api.OK && h.book.last() == line
}
