package order_test

import (
	"errors"
	"math"
	"slices"
	"testing"

	"tableau/api"
	"tableau/order"
)

// far are numbers at the ends of what a number may be, and where parts of it end.
var far = []int{math.MinInt, -1 << 32, -1 << 31, -1, 0, 1, 1 << 31, 1 << 32, 1<<32 + 1, math.MaxInt}

// beside is Above or Below.
type beside = func(l []int, id, by int) ([]int, error)

// both are Above and Below, and the words they are told by.
var both = map[string]beside{"above": order.Above, "below": order.Below}

// gives wants a list, and no error.
func gives(t *testing.T, name string, f beside, l []int, id, by int, want []int) {
	t.Helper()
	if got, err := f(l, id, by); !slices.Equal(got, want) || err != nil {
		t.Errorf("%d %s %d in %v: %v %v, not %v", id, name, by, l, got, err, want)
	}
}

// refuses wants nil and ErrPlace, which is none of the other errors.
func refuses(t *testing.T, name string, f beside, l []int, id, by int) {
	t.Helper()
	got, err := f(l, id, by)
	if got != nil || !errors.Is(err, api.ErrPlace) || errors.Is(err, api.ErrObject) || errors.Is(err, api.ErrArg) {
		t.Errorf("%d %s %d in %v: %v %v, not ErrPlace", id, name, by, l, got, err)
	}
}

// P16.1: the document's example.
func TestExample(t *testing.T) {
	gives(t, "above", order.Above, []int{1, 2, 3}, 1, 2, []int{2, 1, 3})
}

// P16.1: whether it is there, once or more than once, at either end or between.
func TestHas(t *testing.T) {
	l := []int{4, 0, -7, 4, 9}
	for id := -10; id <= 10; id++ {
		if want := id == 4 || id == 0 || id == -7 || id == 9; order.Has(l, id) != want {
			t.Error(id, !want)
		}
	}
	if order.Has(nil, 0) || order.Has([]int{}, 0) || order.Has(l[:0], 4) || order.Has(l[:4], 9) || !order.Has([]int{0}, 0) {
		t.Error("none, or one")
	}
}

// P16.1, P16.2: each of that number is gone, and no other one; the others stay in their order.
func TestDrop(t *testing.T) {
	for i, x := range []struct {
		l    []int
		id   int
		want []int
	}{
		{nil, 0, nil},
		{[]int{}, 1, nil},
		{[]int{1}, 1, nil},
		{[]int{1}, 2, []int{1}},
		{[]int{1, 1, 1}, 1, nil},
		{[]int{3, 1, 2}, 3, []int{1, 2}},
		{[]int{3, 1, 2}, 1, []int{3, 2}},
		{[]int{3, 1, 2}, 2, []int{3, 1}},
		{[]int{3, 1, 2}, 0, []int{3, 1, 2}},
		{[]int{2, 2, 9, 2, 5, 9, 2, 2}, 2, []int{9, 5, 9}},
		{[]int{2, 2, 9, 2, 5, 9, 2, 2}, 9, []int{2, 2, 2, 5, 2, 2}},
		{[]int{0, -1, 0}, 0, []int{-1}},
	} {
		if got := order.Drop(x.l, x.id); !slices.Equal(got, x.want) {
			t.Errorf("%d: %v", i, got)
		}
	}
}

// P16.1, P16.2: one that was there, or was not, is behind all, once; the others stay in their order.
func TestTop(t *testing.T) {
	for i, x := range []struct {
		l    []int
		id   int
		want []int
	}{
		{nil, 0, []int{0}},
		{[]int{}, 7, []int{7}},
		{[]int{1}, 1, []int{1}},
		{[]int{1}, 2, []int{1, 2}},
		{[]int{1, 1, 1}, 1, []int{1}},
		{[]int{3, 1, 2}, 3, []int{1, 2, 3}},
		{[]int{3, 1, 2}, 1, []int{3, 2, 1}},
		{[]int{3, 1, 2}, 2, []int{3, 1, 2}},
		{[]int{3, 1, 2}, 4, []int{3, 1, 2, 4}},
		{[]int{3, 1, 2}, -4, []int{3, 1, 2, -4}},
		{[]int{2, 5, 2, 9, 5, 2}, 2, []int{5, 9, 5, 2}},
		{[]int{2, 5, 2, 9, 5, 2}, 0, []int{2, 5, 2, 9, 5, 2, 0}},
	} {
		if got := order.Top(x.l, x.id); !slices.Equal(got, x.want) {
			t.Errorf("%d: %v", i, got)
		}
	}
}

// P16.1, P16.2: just behind by, and just ahead of it, from below and from above, next to it and far off.
func TestBeside(t *testing.T) {
	for _, x := range []struct {
		l            []int
		id, by       int
		above, below []int
	}{
		{[]int{1, 2}, 1, 2, []int{2, 1}, []int{1, 2}},
		{[]int{1, 2}, 2, 1, []int{1, 2}, []int{2, 1}},
		{[]int{1, 2, 3, 4, 5}, 1, 5, []int{2, 3, 4, 5, 1}, []int{2, 3, 4, 1, 5}},
		{[]int{1, 2, 3, 4, 5}, 5, 1, []int{1, 5, 2, 3, 4}, []int{5, 1, 2, 3, 4}},
		{[]int{1, 2, 3, 4, 5}, 2, 3, []int{1, 3, 2, 4, 5}, []int{1, 2, 3, 4, 5}},
		{[]int{1, 2, 3, 4, 5}, 3, 2, []int{1, 2, 3, 4, 5}, []int{1, 3, 2, 4, 5}},
		{[]int{1, 2, 3, 4, 5}, 2, 4, []int{1, 3, 4, 2, 5}, []int{1, 3, 2, 4, 5}},
		{[]int{1, 2, 3, 4, 5}, 4, 2, []int{1, 2, 4, 3, 5}, []int{1, 4, 2, 3, 5}},
		// 0 and numbers below are as any
		{[]int{0, 8, -3}, 8, 0, []int{0, 8, -3}, []int{8, 0, -3}},
		{[]int{0, 8, -3}, 0, -3, []int{8, -3, 0}, []int{8, 0, -3}},
	} {
		gives(t, "above", order.Above, x.l, x.id, x.by, x.above)
		gives(t, "below", order.Below, x.l, x.id, x.by, x.below)
	}
}

// P16.1: by the first by, where there are more; of id just one is left.
func TestBesideMore(t *testing.T) {
	for _, x := range []struct {
		l            []int
		id, by       int
		above, below []int
	}{
		{[]int{5, 1, 5, 2}, 2, 5, []int{5, 2, 1, 5}, []int{2, 5, 1, 5}},
		{[]int{2, 1, 5, 5, 3}, 2, 5, []int{1, 5, 2, 5, 3}, []int{1, 2, 5, 5, 3}},
		{[]int{2, 5, 2, 7, 2}, 2, 7, []int{5, 7, 2}, []int{5, 2, 7}},
		{[]int{2, 2, 2, 7}, 2, 7, []int{7, 2}, []int{2, 7}},
		{[]int{7, 2, 2, 7, 2}, 2, 7, []int{7, 2, 7}, []int{2, 7, 7}},
		{[]int{2, 2, 7, 4, 7, 2}, 2, 4, []int{7, 4, 2, 7}, []int{7, 2, 4, 7}},
	} {
		gives(t, "above", order.Above, x.l, x.id, x.by, x.above)
		gives(t, "below", order.Below, x.l, x.id, x.by, x.below)
	}
}

// P16.1: nil and ErrPlace without id, without by, without both, and of one that is to be beside itself, be it there or not.
func TestBesideWrong(t *testing.T) {
	for name, f := range both {
		for _, l := range [][]int{nil, {}, {1}, {1, 2, 3}, {2, 2, 2}, {3, 1, 3, 1}} {
			for id := range 6 {
				refuses(t, name, f, l, id, id)
				refuses(t, name, f, l, id, 9)
				refuses(t, name, f, l, -9, id)
				refuses(t, name, f, l, 8, 9)
			}
		}
		refuses(t, name, f, []int{1, 2, 3}, 0, 2)
		refuses(t, name, f, []int{1, 2, 3}, 2, 0)
	}
}

// R5: any number is taken, and told apart to the last bit.
func TestFar(t *testing.T) {
	var l []int
	for _, id := range far {
		if order.Has(l, id) || !slices.Equal(order.Drop(l, id), l) {
			t.Error(id, "is there")
		}
		l = order.Top(l, id)
	}
	if !slices.Equal(l, far) {
		t.Fatal(l)
	}
	for i, id := range far {
		if rest := order.Drop(l, id); !order.Has(l, id) || order.Has(rest, id) || !slices.Equal(rest, slices.Concat(far[:i], far[i+1:])) {
			t.Error(id, rest)
		}
		if by := far[0]; id != by {
			gives(t, "above", order.Above, l, id, by, slices.Concat([]int{by, id}, far[1:i], far[i+1:]))
			gives(t, "below", order.Below, l, id, by, slices.Concat([]int{id, by}, far[1:i], far[i+1:]))
		}
	}
}

// dropped is Drop, as the document's words say it.
func dropped(l []int, id int) []int {
	var rest []int
	for _, one := range l {
		if one != id {
			rest = append(rest, one)
		}
	}
	return rest
}

// placed is Above or Below, as the document's words say it, and whether there is such a one.
func placed(l []int, id, by int, above bool) (all []int, ok bool) {
	if !slices.Contains(l, id) || !slices.Contains(l, by) || id == by {
		return nil, false
	}
	done := false
	for _, one := range dropped(l, id) {
		now := one == by && !done
		if now && !above {
			all = append(all, id)
		}
		all = append(all, one)
		if now && above {
			all = append(all, id)
		}
		done = done || now
	}
	return all, true
}

// lists goes through all lists of numbers from 0 to 3, of at most six items.
func lists(yield func([]int) bool) {
	for size := range 7 {
		for n := range 1 << (2 * size) {
			l := make([]int, size)
			for i := range l {
				l[i] = n >> (2 * i) & 3
			}
			if !yield(l) {
				return
			}
		}
	}
}

// P16.1, P16.2: all short lists, against what the document's words say.
func TestAnyLists(t *testing.T) {
	for l := range lists {
		for id := range 5 {
			rest := dropped(l, id)
			if order.Has(l, id) != slices.Contains(l, id) || !slices.Equal(order.Drop(l, id), rest) || !slices.Equal(order.Top(l, id), append(rest, id)) {
				t.Fatal(l, id)
			}
			for by := range 5 {
				for name, f := range both {
					if want, ok := placed(l, id, by, name == "above"); ok {
						gives(t, name, f, l, id, by, want)
					} else {
						refuses(t, name, f, l, id, by)
					}
				}
			}
		}
		if t.Failed() {
			return
		}
	}
}

// P16.2: however one is put, without it the list is as it was without it.
func TestOthersStay(t *testing.T) {
	for l := range lists {
		for id := range 4 {
			rest := order.Drop(l, id)
			if !slices.Equal(order.Drop(order.Top(l, id), id), rest) {
				t.Fatal("top", l, id)
			}
			for by := range 4 {
				for name, f := range both {
					if got, err := f(l, id, by); err == nil && (len(got) != len(rest)+1 || !slices.Equal(order.Drop(got, id), rest)) {
						t.Fatal(name, l, id, by, got)
					}
				}
			}
		}
	}
}

// calls are all that answer a list, of the numbers in a list of 1, 2, 3, and of some that are not there.
func calls() map[string]func([]int) []int {
	of := func(f beside, id, by int) func([]int) []int {
		return func(l []int) []int {
			got, _ := f(l, id, by)
			return got
		}
	}
	return map[string]func([]int) []int{
		"drop first":  func(l []int) []int { return order.Drop(l, 1) },
		"drop last":   func(l []int) []int { return order.Drop(l, 3) },
		"drop none":   func(l []int) []int { return order.Drop(l, 9) },
		"top first":   func(l []int) []int { return order.Top(l, 1) },
		"top last":    func(l []int) []int { return order.Top(l, 3) },
		"top new":     func(l []int) []int { return order.Top(l, 9) },
		"above":       of(order.Above, 1, 3),
		"above as is": of(order.Above, 2, 1),
		"above none":  of(order.Above, 1, 9),
		"below":       of(order.Below, 3, 1),
		"below as is": of(order.Below, 1, 2),
		"below none":  of(order.Below, 9, 1),
	}
}

// scribble writes over a list, and over its spare room.
func scribble(l []int) {
	for i := range l[:cap(l)] {
		l[:cap(l)][i] = 77
	}
}

// R3: a list that is handed in is neither changed nor kept, its spare room neither; what is answered is new memory, spare room too.
func TestMemory(t *testing.T) {
	for name, call := range calls() {
		room := []int{1, 2, 3, 8, 9, 8}
		was := slices.Clone(room)
		got, again := call(room[:3]), call(room[:3])
		if !slices.Equal(room, was) {
			t.Error(name, "changed its list:", room)
		}
		keep := slices.Clone(again)
		scribble(got)
		if !slices.Equal(room, was) || !slices.Equal(again, keep) {
			t.Error(name, "answered what is another one's:", room, again)
		}
		scribble(room)
		if !slices.Equal(again, keep) {
			t.Error(name, "kept its list:", again)
		}
		if l := call([]int{1, 2, 3}); !slices.Equal(l, keep) {
			t.Error(name, "hangs on an earlier call:", l)
		}
	}
}

// R1: long lists are taken too, with one number at every second place.
func TestLong(t *testing.T) {
	const n = 200000
	var l, odd []int
	for i := range n {
		l, odd = append(l, 0, i+1), append(odd, i+1)
	}
	if got := order.Drop(l, 0); !slices.Equal(got, odd) {
		t.Error("drop", len(got))
	}
	if got := order.Top(l, 0); !slices.Equal(got, append(slices.Clone(odd), 0)) {
		t.Error("top", len(got))
	}
	if got, err := order.Above(l, 0, n); err != nil || !slices.Equal(got, append(slices.Clone(odd), 0)) {
		t.Error("above", len(got), err)
	}
	if got, err := order.Below(l, 0, 1); err != nil || !slices.Equal(got, append([]int{0}, odd...)) {
		t.Error("below", len(got), err)
	}
}
