package blame_test

import (
	"slices"
	"strings"
	"testing"

	"lemmary/api"
	"lemmary/blame"
	"lemmary/sample"
)

// stories tells of changes the marks, each as NAME FIRST LAST, and the histories
// of the names, in their order. The chapter's example comes first.
func stories() []struct {
	c, marks  string
	histories [][]int
} {
	return []struct {
		c, marks  string
		histories [][]int
	}{
		{"add ann i; name ann i id; set bob id!", "id ann bob", [][]int{{0, 1, 2}}},
		{"add ann k; add ann i; name ann i id; set bob id!", "id ann bob, k ann ann", [][]int{{1, 2, 3}, {0}}},
		{"", "", nil}, {"add ann a; drop ann a", "", nil},
		{"add ann a; set bob a!; set cy a", "a ann cy", [][]int{{0, 1, 2}}}, {"add ann a; set bob a!; set ann a", "a ann ann", [][]int{{0, 1, 2}}},
		{"add cy a/bob; set dan a!/bob", "a cy dan", [][]int{{0, 1}}}, // not by whom the entry is
		{"add ann a; name bob a b", "b ann ann", [][]int{{0, 1}}}, {"add ann a; set bob a!; name cy a b; name dan b c", "c ann bob", [][]int{{0, 1, 2, 3}}}, {"add ann a; name bob a b; name bob b a", "a ann ann", [][]int{{0, 1, 2}}},
		{"add ann a; drop bob a; add cy a", "a cy cy", [][]int{{2}}}, {"add ann a; set ann a!; drop bob a; add cy a; set dan a!", "a cy dan", [][]int{{3, 4}}}, // what is gone is forgotten
		{"add ann a; name ann a b; add bob a; set cy b!", "a bob bob, b ann cy", [][]int{{2}, {0, 1, 3}}}, {"add ann a; add bob b; name cy a c; name cy b a; name cy c b", "a bob bob, b ann ann", [][]int{{1, 3}, {0, 2, 4}}},
		{"add ann a; add bob b; drop cy a; name cy b a; set cy a!", "a bob cy", [][]int{{1, 3, 4}}}, {"add ann a; add bob b:a; name cy a c; set dan c!", "b bob bob, c ann dan", [][]int{{1}, {0, 2, 3}}}, // the use that is called otherwise is no change of b
		{"add ann a; add bob b; set cy b!; drop cy a; set ann b", "b bob ann", [][]int{{1, 2, 4}}},
	}
}

// 9.3
func TestBlameAndHistory(t *testing.T) {
	s := sample.Sign()
	for _, story := range stories() {
		marks, e := blame.Blame(s, changes(story.c))
		told := []string{}
		for _, mark := range marks {
			told = append(told, mark.Name+" "+mark.First+" "+mark.Last)
		}
		if e != api.OK || strings.Join(told, ", ") != story.marks {
			t.Errorf("Blame of %s = %v, %d; want %s", story.c, told, e, story.marks)
		}
		for i, want := range story.histories {
			if history, e := blame.History(s, changes(story.c), marks[i].Name); e != api.OK || !slices.Equal(history, want) {
				t.Errorf("History of %s: %v is %v, %d; want %v", story.c, marks[i], history, e, want)
			}
		}
	}
}

// 9.3: ErrName of names that are not there at the end, behind the error of
// Played.
func TestHistoryOfNone(t *testing.T) {
	s := sample.Sign()
	list := changes("add ann a; name ann a b; add ann c:lost; drop ann c; add ann d:gone; add ann gone; name ann gone here")
	for _, name := range append(sample.WrongNames(), "a", "c", "gone", "lost", "ann", "x") {
		if history, e := blame.History(s, list, name); e != api.ErrName || len(history) != 0 {
			t.Errorf("History of %q = %v, %d", name, history, e)
		}
		if history, e := blame.History(s, nil, name); e != api.ErrName || len(history) != 0 {
			t.Errorf("History of %q = %v, %d", name, history, e)
		}
		if history, e := blame.History(s, append(slices.Clone(list), change("drop ann here")), name); e != api.ErrState || len(history) != 0 {
			t.Errorf("History of %q = %v, %d", name, history, e)
		}
	}
}

// past returns the history of an entry that is there after changes, told
// backwards.
func past(list []api.Change, name string) []int {
	history := []int{}
	for i, c := range slices.Backward(list) {
		if c.Kind == api.CName && c.New == name {
			history = append(history, i)
			name = c.Name
		} else if c.Entry.Name == name {
			history = append(history, i)
		}
		if c.Kind == api.CAdd && c.Entry.Name == name {
			break
		}
	}
	slices.Reverse(history)
	return history
}

// 9.3, P9.5: by random changes.
func TestBlameRandom(t *testing.T) {
	var d sample.Dice
	s := sample.Sign()
	for range 500 {
		list, editions := story(&d, 1+d.Roll(40))
		want := []api.Mark{}
		for _, x := range editions[len(list)] {
			history := past(list, x.Name)
			if got, e := blame.History(s, list, x.Name); e != api.OK || !slices.Equal(got, history) {
				t.Errorf("History(%v, %q) = %v, %d; want %v", list, x.Name, got, e, history)
			}
			mark := api.Mark{Name: x.Name, First: list[history[0]].By}
			for _, i := range history {
				if list[i].Kind == api.CAdd || list[i].Kind == api.CSet {
					mark.Last = list[i].By
				}
			}
			want = append(want, mark)
		}
		if marks, e := blame.Blame(s, list); e != api.OK || !slices.Equal(marks, want) {
			t.Errorf("Blame(%v) = %v, %d; want %v", list, marks, e, want)
		}
	}
}

// first tells by the chapter's words after how many changes an entry says
// something of which a term is an instance, or 0.
func first(editions [][]api.Entry, u api.Term) int {
	return 1 + slices.IndexFunc(editions[1:], func(l []api.Entry) bool {
		return slices.ContainsFunc(l, func(x api.Entry) bool { return sample.Instance(sample.Sign(), x.Says, u) })
	})
}

// 9.3: it counts from 1 on, and also what is gone at the end.
func TestFirst(t *testing.T) {
	gone := changes("add ann k; add ann i!; name ann i id; drop ann id; set ann k!")
	gone[1].Entry.Says = api.Term{0, 1, -1, 0, -2, -2}
	more := changes("add ann k!; set ann k; set ann k!; add ann t")
	more[3].Entry.Says = api.Term{0, -1, -2}
	tests := []struct {
		c    []api.Change
		t    api.Term
		want int
	}{
		{gone, sample.K(), 1}, {gone, api.Term{0, -3, 0, -2, -3}, 1}, {gone, api.Term{0, 2, 0, 1, -9, 2}, 1}, {gone, api.Term{0, -1, 0, -1, -1}, 1}, {gone, api.Term{0, 1, -1, 0, -2, -2}, 2}, {gone, api.Term{0, 1, 2, 0, 2, 2}, 2},
		{gone, api.Term{0, -5, -5}, 5}, {gone, api.Term{0, 0, -1, -2, 0, -1, -2}, 5}, {more, api.Term{0, -2, -2}, 1}, {more, sample.K(), 2}, {more, api.Term{0, -7, -2}, 4}, {more, api.Term{0, 1, -3, -1}, 4},
		{gone, api.Term{-1}, 0}, {gone, api.Term{0, -1, -2}, 0}, {gone, api.Term{1, -1}, 0}, {gone, api.Term{0, -1, 0, -2, -2}, 0}, {more, sample.Tower(60), 0}, {more, api.Term{-3}, 0},
	}
	for _, test := range tests {
		want := api.OK
		if test.want == 0 {
			want = api.ErrNone
		}
		if n, e := blame.First(sample.Sign(), test.c, test.t); e != want || n != test.want {
			t.Errorf("First of %v = %d, %d; want %d", test.t, n, e, test.want)
		}
	}
}

// 9.3: the greatest terms, and ErrNone behind the error of Played, of all
// changes.
func TestFirstErrors(t *testing.T) {
	s := sample.Sign()
	wide := sample.Chain(sample.Vars(0, 11)...)
	list := changes("add ann a; add ann b")
	list[1].Entry.Says = wide
	for _, u := range []api.Term{wide, sample.Chain(append(sample.Vars(1, 11), sample.Tower(38))...)} {
		if n, e := blame.First(s, list, u); n != 2 || e != api.OK {
			t.Errorf("First of %v = %d, %d", u, n, e)
		}
	}
	for _, more := range []string{"add ann a", "drop ann gone", "set ann a"} {
		for _, u := range []api.Term{sample.K(), {1, 2}} {
			_, _, want := blame.Played(s, nil, append(slices.Clone(list), change(more)))
			if n, e := blame.First(s, append(slices.Clone(list), change(more)), u); n != 0 || e != want || e == api.OK {
				t.Errorf("First of %v with %s = %d, %d", u, more, n, e)
			}
		}
		for _, u := range sample.WrongTerms() {
			if n, e := blame.First(s, append(slices.Clone(list), change(more)), u); n != 0 || e != api.ErrInvalid {
				t.Errorf("First of %v with %s = %d, %d", u, more, n, e)
			}
		}
	}
	if n, e := blame.First(s, nil, sample.K()); n != 0 || e != api.ErrNone {
		t.Errorf("First of no changes = %d, %d", n, e)
	}
}

// 9.3: by random changes and terms, against the chapter's words.
func TestFirstRandom(t *testing.T) {
	var d sample.Dice
	s := sample.Sign()
	done := map[int]int{}
	for range 400 {
		list, editions := story(&d, 1+d.Roll(20))
		for range 5 {
			l := editions[d.Roll(len(editions))]
			u := d.Term(s, 1+d.Roll(9), 3)
			if len(l) > 0 && d.Roll(4) > 0 {
				u = sample.Put([]api.Bind{{Var: d.Roll(2), To: api.Term{1, -3}}}, sample.Apart(l[d.Roll(len(l))].Says, d.Roll(5)))
			}
			want, wrong := first(editions, u), api.OK
			if want == 0 {
				wrong = api.ErrNone
			}
			if n, e := blame.First(s, list, u); n != want || e != wrong {
				t.Errorf("First(%v, %v) = %d, %d; want %d", list, u, n, e, want)
			}
			done[min(want, 3)]++
		}
	}
	if done[0] < 200 || done[1] < 200 || done[2] < 50 || done[3] < 200 {
		t.Errorf("%v", done)
	}
}
