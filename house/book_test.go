package house_test

import (
	"bytes"
	"slices"
	"strconv"
	"strings"
	"testing"

	"lemmary/api"
	"lemmary/house"
	"lemmary/sample"
)

// story is a script with all commands; after each of its lines the house is
// another one.
const story = logic + "axiom j ann (x0->x0)\naxiom p ann (x0->(x1->N(x0)))\nprove a bob N((T->T)) p,j,s,k DDg00g01DDg02g03g03\nprove b bob N((T->T)) a g00\nshorten a cy\nrename k kk dan\nset b eve N((T->T)) p,j,a DDg00g01Dg00g02\nset b eve N((T->T)) p,i,j DDg00g01g02\nset j fay (x0->x0) kk,s DDg01g00g00\ndrop b ann\nrename a b ann\n"

// checkRead fails unless Read of bytes is an error.
func checkRead(t *testing.T, b []byte, want api.Errno, what string) {
	t.Helper()
	if h, e := house.Read(sample.Sign(), b); h != nil || e != want {
		t.Errorf("%s: Read(%.300q) = %v, %d; want %d", what, b, h, e, want)
	}
}

// checkHouse fails unless Read of bytes is a house.
func checkHouse(t *testing.T, b []byte, want *house.House, what string) {
	t.Helper()
	h, e := house.Read(sample.Sign(), b)
	if e != api.OK || !house.Same(h, want) || told(h) != told(want) {
		t.Errorf("%s: Read(%.300q) = %s, %d; want %s", what, b, told(h), e, told(want))
	}
}

// P10.5, 10.4: of every beginning of a book Read makes the house after the
// commands whose lines are whole; this goes on as the other one does.
func TestReadBeginnings(t *testing.T) {
	all := opened(t, story).Bytes()
	commands := strings.SplitAfter(story, "\n")
	commands = commands[:len(commands)-1]
	for n := range len(all) + 1 {
		whole := bytes.Count(all[:n], []byte("\n"))
		h := opened(t, strings.Join(commands[:whole], ""))
		checkHouse(t, all[:n], h, "a beginning")
		back, e := house.Read(sample.Sign(), all[:n])
		if e != api.OK {
			continue
		}
		run(t, back, strings.Join(commands[whole:], ""))
		if !bytes.Equal(back.Bytes(), all) {
			t.Errorf("the book goes on as %q", back.Bytes())
		}
	}
	checkHouse(t, nil, opened(t, ""), "nothing")
	checkHouse(t, append(slices.Clone(all), "14 torn"...), opened(t, story), "a torn line")
	checkHouse(t, []byte(" "), opened(t, ""), "a torn blank")
	checkHouse(t, bytes.Repeat([]byte("x"), 1<<20), opened(t, ""), "a long torn line")
}

// P10.5, 10.4: a byte that is changed, put in or taken out is an ErrChain, as long
// as it is not behind the last line feed, and this stays.
func TestReadChanged(t *testing.T) {
	all := opened(t, story).Bytes()
	last := len(all) - 1
	commands := strings.SplitAfter(story, "\n")
	but := opened(t, strings.Join(commands[:len(commands)-2], ""))
	for i, was := range all {
		for _, c := range []byte{' ', '\n', '0', '1', '9', 'x', 'k', '(', 0, 255, was + 1, was - 1, was ^ 128} {
			with := slices.Clone(all)
			with[i] = c
			switch {
			case c == was:
			case i == last:
				checkHouse(t, with, but, "the last line feed changed")
			default:
				checkRead(t, with, api.ErrChain, "a byte changed")
			}
			more := slices.Insert(slices.Clone(all), i, c)
			checkRead(t, more, api.ErrChain, "a byte put in")
		}
		less := slices.Delete(slices.Clone(all), i, i+1)
		if i == last {
			checkHouse(t, less, but, "the last line feed taken out")
		} else {
			checkRead(t, less, api.ErrChain, "a byte taken out")
		}
	}
}

// 10.4: lines that are not in their order, or not there.
func TestReadLines(t *testing.T) {
	lines := bytes.SplitAfter(opened(t, story).Bytes(), []byte("\n"))
	lines = lines[:len(lines)-1]
	for i := range lines {
		twice := slices.Insert(slices.Clone(lines), i, lines[i])
		checkRead(t, slices.Concat(twice...), api.ErrChain, "a line twice")
		if i+1 < len(lines) {
			swapped := slices.Clone(lines)
			swapped[i], swapped[i+1] = lines[i+1], lines[i]
			checkRead(t, slices.Concat(swapped...), api.ErrChain, "two lines swapped")
			checkRead(t, slices.Concat(slices.Delete(slices.Clone(lines), i, i+1)...), api.ErrChain, "a line left out")
		}
		empty := slices.Insert(slices.Clone(lines), i, []byte("\n"))
		checkRead(t, slices.Concat(empty...), api.ErrChain, "an empty line")
	}
	checkRead(t, append(slices.Concat(lines...), '\n'), api.ErrChain, "an empty line at the end")
	checkRead(t, []byte("\n"), api.ErrChain, "an empty line")
}

// 10.4: lines whose sums are right, but that have another form.
func TestReadForms(t *testing.T) {
	h := opened(t, "axiom k ann T\n")
	sum := strconv.FormatUint(h.Lines()[0].Sum, 10)
	checkHouse(t, []byte("0 "+sum+" axiom k ann T\n"), h, "the right form")
	for _, text := range []string{
		"00 " + sum + " axiom k ann T\n", "+0 " + sum + " axiom k ann T\n", "-0 " + sum + " axiom k ann T\n", "0 0" + sum + " axiom k ann T\n", "0 +" + sum + " axiom k ann T\n", "0  " + sum + " axiom k ann T\n", "0 " + sum + "  axiom k ann T\n", " 0 " + sum + " axiom k ann T\n",
		"0\t" + sum + " axiom k ann T\n", "0 " + sum + "\taxiom k ann T\n", "0 " + sum + " axiom k ann T\r\n", "0 " + sum + " axiom k ann T \n", "0 " + sum + " axiom k ann  T\n", "0 " + sum + "\n", "0 " + sum + " \n", "0\n", "0 \n", " \n", "  \n", "0  \n", "axiom k ann T\n", "0 axiom k ann T\n", sum + " axiom k ann T\n", sum + " 0 axiom k ann T\n",
		"0 " + strconv.FormatUint(h.Lines()[0].Sum+1, 10) + " axiom k ann T\n", "0 18446744073709551616 axiom k ann T\n", "0 1844674407370955161600 axiom k ann T\n", "0 -1 axiom k ann T\n", "0 0x1 axiom k ann T\n", "1 " + sum + " axiom k ann T\n", "-1 " + sum + " axiom k ann T\n", "0 " + sum + ".0 axiom k ann T\n",
		"0 " + sum + " axiom k ann T\n\n", "0 " + sum + " axiom k ann T\n0 " + sum + " axiom k ann T\n", "0 " + sum + " axiom k ann T\n1\n",
	} {
		checkRead(t, []byte(text), api.ErrChain, "another form")
	}
	_, empty := bound("")
	checkRead(t, empty, api.ErrChain, "no Text")
	_, behind := bound("axiom k ann T", "")
	checkRead(t, behind, api.ErrChain, "no Text behind another line")
	// The Number and the Sum of a line count on from the line before.
	_, two := bound("axiom k ann T", "axiom l ann T")
	checkHouse(t, two, opened(t, "axiom k ann T\naxiom l ann T\n"), "two lines")
	_, others := bound("x", "axiom l ann T")
	checkRead(t, slices.Concat([]byte("0 "+sum+" axiom k ann T\n"), others[bytes.IndexByte(others, '\n')+1:]), api.ErrChain, "a line of another book")
}

// 10.4: ErrState of lines that fit, but have a Text that can't be read, a command
// that fails, or another line than this command makes; wherever they are.
func TestReadStates(t *testing.T) {
	for _, text := range []string{
		// what can't be read
		"x", " ", "  ", "\x00", "axiom", "ok", "count", "says k", "sound", " axiom a ann T", "axiom a ann T ", "axiom  a ann T", "axiom a ann  T", "axiom a ann", "axiom a ann T T", "axiom a ann (x0 -> x0)", "axiom a ann x12", "axiom a ann ", "Axiom a ann T", "axiom a ann T\r", "prove a ann T s,k", "prove a ann (x0->x0) s,k DDg00g01g01 g00", "prove a ann C s,k DDg00g01g01", "set i ann C s,k DDg00g01g01", "drop i", "drop i ann ann", "rename i j", "shorten i", "drop i ann ", "shorten  ann",
		// what fails
		"axiom A ann T", "axiom a Ann T", "axiom k ann T", "prove a ann (x0->x0) s,,k DDg00g01g01", "prove a ann (x0->x0) s,s g00", "prove a ann (x0->x0) s,l DDg00g01g01", "prove a ann (x0->x0) s,k DDg00g01", "prove i ann (x0->x0) s,k DDg00g01g01", "prove a ann x0 s,k DDg00g01g01", "prove a ann (x0->x0) s,k " + many(61), "set i bob (x0->x0) s,k DDg00g01g01", "set i bob (x0->x0) i g00", "set i bob x0 s,k DDg00g01g01", "set a bob (x0->x0) s,k DDg00g01g01", "rename k k ann", "rename k s ann", "rename a b ann", "drop k ann", "drop a ann", "shorten a ann", "shorten k ann", "shorten i ann",
		// what makes another line
		"axiom a ann (x1->x1)", "axiom a ann x1", "prove a ann (x5->x5) s,k DDg00g01g01", "set i ann (x1->x1) s,k DDg00g01g01",
	} {
		lines := strings.Split(strings.TrimSuffix(logic, "\n"), "\n")
		_, b := bound(append(lines, text)...)
		checkRead(t, b, api.ErrState, "at the end")
		_, b = bound(append(lines, text, "axiom z ann T")...)
		checkRead(t, b, api.ErrState, "ahead of a right line")
		checkRead(t, append(b, "torn"...), api.ErrState, "ahead of a torn line")
		checkRead(t, append(b, "4 no line\n"...), api.ErrChain, "ahead of a line that does not fit")
	}
	checkHouse(t, opened(t, logic).Bytes(), opened(t, logic), "the lines before")
	_, first := bound("x")
	checkRead(t, first, api.ErrState, "at the beginning")
}

// 10.4: the first line that does not fit, or that is the line 2,000, decides,
// ahead of what the lines say.
func TestReadLimit(t *testing.T) {
	texts := strings.Split("axiom a ann T\n"+halves(2001), "\n")
	h := opened(t, "axiom a ann T\n"+halves(1999))
	_, most := bound(texts[:2000]...)
	checkHouse(t, most, h, "2,000 lines")
	lines, more := bound(texts[:2001]...)
	if len(lines) != 2001 || !bytes.HasPrefix(more, most) || len(h.Lines()) != 2000 {
		t.Fatalf("%d lines", len(lines))
	}
	last := more[len(most):]
	checkRead(t, more, api.ErrLimit, "2,001 lines")
	checkHouse(t, more[:len(more)-1], h, "2,000 lines and a torn one")
	checkHouse(t, more[:len(most)+1], h, "2,000 lines and a torn one")
	checkRead(t, append(slices.Clone(more), "no line\n"...), api.ErrLimit, "a line that does not fit behind the line 2,000")
	checkRead(t, append(slices.Clone(most), "no line\n"...), api.ErrChain, "no line 2,000")
	checkRead(t, slices.Concat(most, []byte("\n"), last), api.ErrChain, "an empty line ahead of the line 2,000")
	checkRead(t, slices.Concat(most, []byte("0"), last), api.ErrChain, "another line 2,000")
	changed := slices.Clone(more)
	changed[len(most)-2] = 'x'
	checkRead(t, changed, api.ErrChain, "a line 1,999 that does not fit")
	texts[0] = "no command"
	_, more = bound(texts[:2001]...)
	checkRead(t, more, api.ErrLimit, "2,001 lines, of which the first one is no command")
	_, most = bound(texts[:2000]...)
	checkRead(t, most, api.ErrState, "2,000 lines, of which the first one is no command")
}

// 10.1, 10.4
func TestReadWrongSign(t *testing.T) {
	for _, s := range sample.WrongSigns() {
		for _, b := range []string{"", "torn", "no line\n", string(opened(t, logic).Bytes())} {
			if h, e := house.Read(s, []byte(b)); h != nil || e != api.ErrInvalid {
				t.Errorf("Read(%v, %q) = %v, %d", s, b, h, e)
			}
		}
	}
	// In another logic the same lines say something else, or nothing.
	b := opened(t, logic).Bytes()
	if h, e := house.Read(api.Sign{{Name: "if", Arity: 2}}, b); e != api.OK || house.Same(h, opened(t, logic)) || !bytes.Equal(h.Bytes(), b) {
		t.Errorf("Read = %v, %d", h, e)
	}
	_, b = bound("axiom t ann T")
	if h, e := house.Read(api.Sign{{Name: "C", Arity: 2}}, b); h != nil || e != api.ErrState {
		t.Errorf("Read = %v, %d", h, e)
	}
}

// P10.5: a Text may be longer than a script.
func TestLongText(t *testing.T) {
	h := opened(t, logic)
	tree := huge(15)
	for _, name := range []string{"a", "b"} {
		if e := h.Prove(name, "ann", api.Term{0, -2, -2}, []string{"i"}, tree); e != api.OK {
			t.Fatalf("Prove: %d", e)
		}
	}
	if text := h.Lines()[4].Text; text != "prove b ann (x0->x0) i "+tree || len(text) <= api.MaxText {
		t.Errorf("the Text has %d bytes", len(text))
	}
	checkHouse(t, h.Bytes(), h, "two long lines")
	if got := house.Do(h, "tree a\nshorten a cy\ntree a\n"); got != tree+"\nok\ng00\n" {
		t.Errorf("Do = %.80q", got)
	}
	if got := house.Do(h, "prove c ann (x0->x0) i "+tree+"\n"); got != fails(api.ErrLong) {
		t.Errorf("Do = %.80q", got)
	}
	checkHouse(t, h.Bytes(), h, "with a short proof")
}

// 10.4, R1: what is read is what is written.
func FuzzRead(f *testing.F) {
	f.Add([]byte(""))
	f.Add([]byte("torn"))
	f.Add(opened(f, story).Bytes())
	_, b := bound("axiom a ann T", "axiom a ann (x1->x1)")
	f.Add(b)
	f.Fuzz(func(t *testing.T, b []byte) {
		h, e := house.Read(sample.Sign(), b)
		if e != api.OK {
			if h != nil || e != api.ErrChain && e != api.ErrState && e != api.ErrLimit {
				t.Errorf("Read = %v, %d", h, e)
			}
			return
		}
		whole := b[:bytes.LastIndexByte(b, '\n')+1]
		if !bytes.Equal(h.Bytes(), whole) {
			t.Errorf("Read(%q) has the bytes %q", b, h.Bytes())
		}
	})
}
