package deps_test

import (
	"slices"
	"testing"

	"lemmary/api"
	"lemmary/deps"
	"lemmary/sample"
)

// 6.1, 6.2
func TestOrder(t *testing.T) {
	s := sample.Sign()
	tests := []struct {
		l             []api.Entry
		order, layers []int
		e             api.Errno
	}{
		{nil, nil, nil, api.OK},
		{sample.Library(), []int{0, 1, 2}, []int{0, 0, 1}, api.OK},
		{graph([]string{"a", "b"}, []string{"b", "c"}, []string{"c"}), []int{2, 1, 0}, []int{2, 1, 0}, api.OK},
		{graph([]string{"a", "d"}, []string{"b"}, []string{"c"}, []string{"d"}), []int{1, 2, 3, 0}, []int{1, 0, 0, 0}, api.OK},
		// the index 0 can come as soon as 2 is there, ahead of 3
		{graph([]string{"a", "c"}, []string{"b", "d"}, []string{"c"}, []string{"d"}), []int{2, 0, 3, 1}, []int{1, 1, 0, 0}, api.OK},
		// names decide nothing, indexes do
		{graph([]string{"z"}, []string{"y"}, []string{"a", "z", "y"}), []int{0, 1, 2}, []int{0, 0, 1}, api.OK},
		{graph([]string{"a", "d", "b"}, []string{"b", "c"}, []string{"c"}, []string{"d"}), []int{2, 1, 3, 0}, []int{2, 1, 0, 0}, api.OK},
		{graph([]string{"a", "gone"}), nil, nil, api.ErrName},
		{graph([]string{"a", "a"}), nil, nil, api.ErrCircle},
		{graph([]string{"a", "b"}, []string{"b", "a"}, []string{"c"}), nil, nil, api.ErrCircle},
		{graph([]string{"a", "a"}, []string{"b", "gone"}), nil, nil, api.ErrName},
		{graph([]string{"a", "a", "gone"}), nil, nil, api.ErrName},
	}
	for _, test := range tests {
		if order, e := deps.Order(s, test.l); e != test.e || !slices.Equal(order, test.order) {
			t.Errorf("Order of %v = %v, %d", test.l, order, e)
		}
		if layers, e := deps.Layers(s, test.l); e != test.e || !slices.Equal(layers, test.layers) {
			t.Errorf("Layers of %v = %v, %d", test.l, layers, e)
		}
		if whole, e := deps.Whole(s, test.l); whole != (test.e == api.OK) || e != api.OK {
			t.Errorf("Whole of %v = %t, %d", test.l, whole, e)
		}
	}
}

// canCome tells whether all that an entry cites is among some indexes, and it
// itself is not.
func canCome(l []api.Entry, came []int, i int) bool {
	waits := func(name string) bool { return !slices.Contains(came, at(l, name)) }
	return !slices.Contains(came, i) && !slices.ContainsFunc(l[i].Uses, waits)
}

// 6.2, P6.2: there is an order or a circle, and in the order each index is the
// least one that can come.
func TestOrderOrCircle(t *testing.T) {
	s := sample.Sign()
	check := func(l []api.Entry) {
		order, e := deps.Order(s, l)
		missing, _ := deps.Missing(s, l)
		_, none := deps.Circle(s, l)
		want := api.OK
		if len(missing) > 0 {
			want = api.ErrName
		} else if none != api.ErrNone {
			want = api.ErrCircle
		}
		if whole, _ := deps.Whole(s, l); e != want || whole != (e == api.OK) {
			t.Errorf("Order of %v: %d, but Whole = %t and missing %v, Circle: %d", l, e, whole, missing, none)
		}
		if e != api.OK {
			if len(order) != 0 {
				t.Errorf("Order of %v = %v, %d", l, order, e)
			}
			return
		}
		if len(order) != len(l) {
			t.Errorf("Order of %v = %v", l, order)
		}
		for k, i := range order {
			for least := range l {
				if can := canCome(l, order[:k], least); can != (least == i) && least <= i {
					t.Errorf("Order of %v = %v: not %d ahead of %d", l, order, least, i)
				}
			}
		}
	}
	graphs(3000, 9, check)
	libraries(1000, 12, check)
	sound(300, 60, check)
}

// 6.2: the length of the longest way down.
func TestLayers(t *testing.T) {
	s := sample.Sign()
	sound(500, 20, func(l []api.Entry) {
		layers, e := deps.Layers(s, l)
		if e != api.OK || len(layers) != len(l) {
			t.Errorf("Layers of %v = %v, %d", l, layers, e)
			return
		}
		for i, x := range l {
			want := 0
			for _, name := range x.Uses {
				want = max(want, layers[at(l, name)]+1)
			}
			if layers[i] != want {
				t.Errorf("Layers of %v = %v", l, layers)
			}
		}
	})
	libraries(500, 12, func(l []api.Entry) {
		_, e := deps.Order(s, l)
		if layers, f := deps.Layers(s, l); f != e || e != api.OK && len(layers) != 0 {
			t.Errorf("Layers of %v = %v, %d; of Order %d", l, layers, f, e)
		}
	})
}
