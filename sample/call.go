package sample

import (
	"slices"

	"lemmary/api"
)

// Call is a function that is tested, for some type of input. Its uses are
// letters for the parts of the input that it takes.
type Call[X any] struct {
	name, uses string
	do         func(x X) (any, api.Errno)
}

// Of returns the call of a function with errors.
func Of[X any](name, uses string, do func(x X) (any, api.Errno)) Call[X] {
	return Call[X]{name: name, uses: uses, do: do}
}

// Plain returns the call of a function without errors.
func Plain[X any](name, uses string, do func(x X) any) Call[X] {
	return Of(name, uses, func(x X) (any, api.Errno) { return do(x), api.OK })
}

// Name returns the name of the function.
func (c Call[X]) Name() string {
	return c.name
}

// Test is what a check needs of a test.
type Test interface {
	Errorf(format string, words ...any)
}

// Refused fails unless calls of right input are done, and calls of wrong input
// return an error and nothing else. Where the error is OK, the calls are those
// of reports: they are true of right input, and false of wrong one.
func Refused[X any](t Test, calls []Call[X], right X, wrong func(uses string) []X, e api.Errno) {
	for _, call := range calls {
		if r, f := call.do(right); f != api.OK || e == api.OK && empty(r) {
			t.Errorf("%s of right input: %v, %d", call.name, r, f)
		}
		for _, x := range wrong(call.uses) {
			if r, f := call.do(x); f != e || !empty(r) {
				t.Errorf("%s of %v: %v, %d", call.name, x, r, f)
			}
		}
	}
}

// Changed returns right input after each single change that there is for a use.
func Changed[X any](uses string, right func() X, changes func(use rune) []func(x *X)) []X {
	list := []X{}
	for _, use := range uses {
		for _, change := range changes(use) {
			x := right()
			change(&x)
			list = append(list, x)
		}
	}
	return list
}

// Same fails unless a call of two inputs has the same result.
func Same[X any](t Test, call Call[X], x, y X, text func(words ...any) string) {
	a, e := call.do(x)
	b, f := call.do(y)
	if e != f || text(a) != text(b) {
		t.Errorf("%s of %v is %v, %d, but of %v it is %v, %d", call.name, x, a, e, y, b, f)
	}
}

// Memory is how the memory of input is looked at: a copy with spare capacity
// everywhere, and the text of all that input holds, also there.
type Memory[X any] struct {
	Roomy func(x X) X
	All   func(x X) string
	Text  func(words ...any) string // fmt.Sprint, which this package may not import
}

// Unshared fails if a call changes its input, also in its spare capacity, if who
// overwrites its result changes the input, another part of the result or a later
// result, or if it has but a few results that are not empty.
func (m Memory[X]) Unshared(t Test, calls []Call[X], inputs []X) {
	for _, call := range calls {
		some := 0
		for _, plain := range inputs {
			x := m.Roomy(plain)
			before := m.All(x)
			r, e := call.do(x)
			told := m.Text(r, e)
			if m.All(x) != before {
				t.Errorf("%s changes its input %v", call.name, plain)
			}
			if !empty(r) {
				some++
			}
			m.overwrite(t, call.name, r)
			if m.All(x) != before {
				t.Errorf("%s of %v: the result shares memory with the input", call.name, plain)
			}
			if again, f := call.do(x); m.Text(again, f) != told {
				t.Errorf("%s of %v: first %s, then %v", call.name, plain, told, again)
			}
		}
		if some < 10 {
			t.Errorf("%s has only %d results", call.name, some)
		}
	}
}

// overwrite overwrites all lists of a result, up to their capacities.
func (m Memory[X]) overwrite(t Test, name string, r any) {
	apart := overwritten(numbers(r), 55, m.Text) && overwritten(words(r), "overwritten", m.Text) && overwritten(proofs(r), Cite(55), m.Text)
	if !apart {
		t.Errorf("%s: two lists of the result share memory", name)
	}
	wipe(r)
}

// wipe overwrites the lists of a result that are not overwritten otherwise.
func wipe(r any) {
	switch p := r.(type) {
	case []any:
		for _, part := range p {
			wipe(part)
		}
	case [][]int:
		clear(p[:cap(p)])
	case [][2]int:
		clear(p[:cap(p)])
	case [][2]string:
		clear(p[:cap(p)])
	case []api.Entry:
		clear(p[:cap(p)])
	case []api.Change:
		clear(p[:cap(p)])
	case []api.Mark:
		clear(p[:cap(p)])
	case api.Sign:
		clear(p[:cap(p)])
	case []api.Line:
		clear(p[:cap(p)])
	case []byte:
		clear(p[:cap(p)])
	}
}

// overwritten overwrites lists, up to their capacities, and reports whether each
// of them leaves those behind it as they are.
func overwritten[E any](lists [][]E, with E, text func(words ...any) string) bool {
	apart := true
	for i, list := range lists {
		others := text(lists[i+1:])
		for k := range list[:cap(list)] {
			list[:cap(list)][k] = with
		}
		apart = apart && text(lists[i+1:]) == others
	}
	return apart
}

// empty tells whether a result is its zero value; a list may also be empty.
func empty(r any) bool {
	switch x := r.(type) {
	case bool:
		return !x
	case int:
		return x == 0
	case string:
		return x == ""
	case []int:
		return len(x) == 0
	case [][]int:
		return len(x) == 0
	case [][2]int:
		return len(x) == 0
	case api.Term:
		return len(x) == 0
	case []api.Term:
		return len(x) == 0
	case []api.Bind:
		return len(x) == 0
	case []api.Way:
		return len(x) == 0
	case []api.Step:
		return len(x) == 0
	case []string:
		return len(x) == 0
	case [][2]string:
		return len(x) == 0
	case []api.Entry:
		return len(x) == 0
	case []api.Change:
		return len(x) == 0
	case []api.Mark:
		return len(x) == 0
	case api.Sign:
		return len(x) == 0
	case []api.Line:
		return len(x) == 0
	case []byte:
		return len(x) == 0
	case api.Entry:
		return x.Name == "" && x.By == "" && len(x.Says) == 0 && len(x.Uses) == 0 && len(x.Proof) == 0
	case api.Change:
		return x.Kind == 0 && x.By == "" && x.Name == "" && x.New == "" && empty(x.Entry)
	case []any:
		return !slices.ContainsFunc(x, func(part any) bool { return !empty(part) })
	}
	panic("a result of a type that is not known here")
}

// entries returns all entries of a result.
func entries(r any) []api.Entry {
	switch x := r.(type) {
	case []api.Entry:
		return x
	case api.Entry:
		return []api.Entry{x}
	case api.Change:
		return []api.Entry{x.Entry}
	case []api.Change:
		list := []api.Entry{}
		for _, change := range x {
			list = append(list, change.Entry)
		}
		return list
	}
	return nil
}

// numbers returns all lists of numbers of a result.
func numbers(r any) [][]int {
	lists := [][]int{}
	switch x := r.(type) {
	case []int:
		lists = append(lists, x)
	case [][]int:
		lists = append(lists, x...)
	case api.Term:
		lists = append(lists, x)
	case []api.Term:
		for _, t := range x {
			lists = append(lists, t)
		}
	case []api.Bind:
		for _, bind := range x {
			lists = append(lists, bind.To)
		}
	case []api.Way:
		for _, way := range x {
			lists = append(lists, way.Args)
		}
	case []any:
		for _, part := range x {
			lists = append(lists, numbers(part)...)
		}
	}
	for _, entry := range entries(r) {
		lists = append(lists, entry.Says)
	}
	return lists
}

// words returns all lists of strings of a result.
func words(r any) [][]string {
	lists := [][]string{}
	switch x := r.(type) {
	case []string:
		lists = append(lists, x)
	case []any:
		for _, part := range x {
			lists = append(lists, words(part)...)
		}
	}
	for _, entry := range entries(r) {
		lists = append(lists, entry.Uses)
	}
	return lists
}

// proofs returns all lists of steps of a result.
func proofs(r any) [][]api.Step {
	lists := [][]api.Step{}
	switch x := r.(type) {
	case []api.Step:
		lists = append(lists, x)
	case []any:
		for _, part := range x {
			lists = append(lists, proofs(part)...)
		}
	}
	for _, entry := range entries(r) {
		lists = append(lists, entry.Proof)
	}
	return lists
}
