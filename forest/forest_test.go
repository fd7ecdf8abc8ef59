package forest_test

import (
	"fmt"
	"math"
	"slices"
	"testing"

	"tableau/api"
	"tableau/forest"
)

type places = []api.Child

// most is how many surfaces there may be, and edge how far a place may be, spelt without the package.
const (
	most = 40
	edge = 16777216
)

// far are numbers at the ends of what a number may be, and where parts of it end.
var far = []int{math.MinInt, -1 << 32, -1 << 31, -1, 0, 1, 1 << 31, 1 << 32, 1<<32 + 1, math.MaxInt}

// first is what a new surface has.
var first = api.State{All: true, Order: []int{0}}

// made is a forest of the surfaces 1 to n.
func made(t *testing.T, n int) *forest.Forest {
	t.Helper()
	f := forest.New()
	for id := range n {
		may(t, f.Add(id+1))
	}
	return f
}

// may wants calls to answer nil.
func may(t *testing.T, errs ...error) {
	t.Helper()
	for i, e := range errs {
		if e != nil {
			t.Fatalf("%d: %v", i, e)
		}
	}
}

// wrong wants calls to answer just that error.
func wrong(t *testing.T, want error, errs ...error) {
	t.Helper()
	for i, e := range errs {
		if !just(e, want) {
			t.Fatalf("%d: %v, not %v", i, e, want)
		}
	}
}

// commits wants a commit to apply just these, or to let all wait, if there are none.
func commits(t *testing.T, f *forest.Forest, id int, want ...int) {
	t.Helper()
	if got, err := f.Commit(id); err != nil || !slices.Equal(got, want) {
		t.Fatalf("commit of %d: %v, %v, not %v", id, got, err, want)
	}
}

// is wants a state to be that.
func is(t *testing.T, got, want api.State) {
	t.Helper()
	if !like(got, want) {
		t.Fatalf("%+v, not %+v", got, want)
	}
}

// sees wants a walk to be that.
func sees(t *testing.T, f *forest.Forest, id int, want ...api.Child) {
	t.Helper()
	if got := f.Walk(id); !slices.Equal(got, want) {
		t.Fatalf("walk of %d: %v, not %v", id, got, want)
	}
}

// holds wants these buffers to be held.
func holds(t *testing.T, f *forest.Forest, want ...int) {
	t.Helper()
	if got := f.Held(); !slices.Equal(got, want) {
		t.Fatalf("held: %v, not %v", got, want)
	}
}

// told is all that can be asked of a forest.
func told(f *forest.Forest, ids ...int) string {
	s := fmt.Sprint(f.All(), f.Held())
	for _, id := range ids {
		s += fmt.Sprint(id, f.Has(id), f.Parent(id), f.Synced(id), f.Pending(id), f.Cached(id), f.Current(id), f.Walk(id))
	}
	return s
}

// P17.1, P17.2, P17.3, P17.5: where there is no surface, each call that needs one says so, and nothing is told.
func TestNone(t *testing.T) {
	f := made(t, 2)
	may(t, f.Attach(1, 5), f.Sub(2, 1))
	was := told(f, 1, 2)
	for _, id := range append([]int{3}, far...) {
		if id == 1 {
			continue
		}
		wrong(t, api.ErrObject, f.Drop(id), f.Sub(id, 1), f.Sub(id, id), f.Sub(1, id), f.Sub(2, id), f.Unsub(id),
			f.Attach(id, 1), f.Damage(id, api.Rect{W: 1, H: 1}), f.Frame(id, 1), f.Input(id, true, nil), f.Input(id, false, nil),
			f.Position(id, 1, 1), f.Above(id, 1), f.Below(id, 1), f.Above(id, id), f.Below(id, 0), f.Sync(id, true), f.Sync(id, false))
		l, err := f.Commit(id)
		wrong(t, api.ErrObject, err)
		if l != nil || f.Has(id) || f.Parent(id) != 0 || f.Synced(id) || len(f.Take(id)) != 0 || len(f.Walk(id)) != 0 {
			t.Fatal(id)
		}
		is(t, f.Pending(id), api.State{})
		is(t, f.Cached(id), api.State{})
		is(t, f.Current(id), api.State{})
	}
	if told(f, 1, 2) != was {
		t.Error("a refused call turned something")
	}
	if g := forest.New(); len(g.All()) != 0 || len(g.Held()) != 0 {
		t.Error("a new forest has something")
	}
}

// P17.1: a number from 1 on, one that is not there, room; and that is asked in this order.
func TestAdd(t *testing.T) {
	f := forest.New()
	for _, id := range far {
		if id < 1 {
			wrong(t, api.ErrArg, f.Add(id))
			continue
		}
		may(t, f.Add(id))
		wrong(t, api.ErrObject, f.Add(id))
		if !f.Has(id) || f.Parent(id) != 0 || f.Synced(id) {
			t.Error(id)
		}
		is(t, f.Pending(id), api.State{})
		is(t, f.Cached(id), api.State{})
		is(t, f.Current(id), first)
	}
	if !slices.Equal(f.All(), []int{1, 1 << 31, 1 << 32, 1<<32 + 1, math.MaxInt}) {
		t.Error(f.All())
	}
}

// P17.1: as many as may be, and not one more; who goes leaves room. All are told rising, however they came.
func TestMost(t *testing.T) {
	f := forest.New()
	var want []int
	for i := range most {
		may(t, f.Add(100-i))
		want = append(want, 100-most+1+i)
	}
	wrong(t, api.ErrBig, f.Add(200), f.Add(1))
	wrong(t, api.ErrArg, f.Add(0))
	wrong(t, api.ErrObject, f.Add(100))
	if !slices.Equal(f.All(), want) || f.Has(200) || f.Has(1) {
		t.Error(f.All())
	}
	may(t, f.Drop(100), f.Add(1))
	wrong(t, api.ErrBig, f.Add(100))
	if !slices.Equal(f.All(), append([]int{1}, want[:most-1]...)) {
		t.Error(f.All())
	}
}

// P17.1: who is dropped is out of its parent's states, and its own subsurfaces have no parent any more, but keep what they have.
func TestDrop(t *testing.T) {
	f := made(t, 5)
	may(t, f.Sub(2, 1), f.Sub(3, 2), f.Sub(4, 2), f.Sub(5, 4), f.Attach(3, 30), f.Frame(3, 7))
	commits(t, f, 3)
	may(t, f.Damage(3, api.Rect{W: 1, H: 1}), f.Drop(2))
	if f.Has(2) || !slices.Equal(f.All(), []int{1, 3, 4, 5}) || f.Parent(3) != 0 || f.Parent(4) != 0 || f.Parent(5) != 4 {
		t.Fatal(f.All(), f.Parent(3), f.Parent(4), f.Parent(5))
	}
	if f.Synced(3) || f.Synced(4) || !f.Synced(5) {
		t.Error("who waits for whom")
	}
	is(t, f.Pending(1), api.State{Ordered: true, Order: []int{0}})
	is(t, f.Pending(2), api.State{})
	is(t, f.Current(2), api.State{})
	is(t, f.Cached(3), api.State{Attach: true, Buffer: 30, Frames: []int{7}})
	is(t, f.Pending(3), api.State{Damage: []api.Rect{{W: 1, H: 1}}})
	holds(t, f, 30)
	wrong(t, api.ErrRole, f.Unsub(3), f.Position(4, 1, 1), f.Above(3, 4), f.Sync(3, true))
	wrong(t, api.ErrObject, f.Drop(2))
	may(t, f.Drop(1), f.Sub(3, 4))
}

// P17.1: a number that comes again has nothing of the one that was dropped: neither its states, nor its parent, nor its children.
func TestAgain(t *testing.T) {
	f := made(t, 3)
	may(t, f.Sub(2, 1), f.Sub(3, 2), f.Position(2, 8, 9))
	for _, id := range []int{2, 1} {
		may(t, f.Attach(id, id), f.Frame(id, id), f.Input(id, false, nil))
		f.Commit(id)
	}
	sees(t, f, 1, api.Child{ID: 1}, api.Child{ID: 2, X: 8, Y: 9})
	may(t, f.Attach(2, 4))
	commits(t, f, 2)
	may(t, f.Attach(2, 5), f.Drop(2), f.Add(2))
	is(t, f.Pending(2), api.State{})
	is(t, f.Cached(2), api.State{})
	is(t, f.Current(2), first)
	is(t, f.Current(1), api.State{Buffer: 1, Frames: []int{1}, Order: []int{0}})
	if f.Parent(2) != 0 || f.Parent(3) != 0 {
		t.Error(f.Parent(2), f.Parent(3))
	}
	sees(t, f, 1, api.Child{ID: 1})
	sees(t, f, 2)
	holds(t, f, 1)
}

// P17.1: what is dropped is held no more: neither what it had, nor what waited in it.
func TestDropFrees(t *testing.T) {
	f := made(t, 2)
	may(t, f.Attach(1, 1), f.Attach(2, 2))
	commits(t, f, 1, 1)
	commits(t, f, 2, 2)
	may(t, f.Sub(2, 1), f.Attach(2, 3))
	commits(t, f, 2)
	holds(t, f, 1, 2, 3)
	may(t, f.Drop(2))
	holds(t, f, 1)
	may(t, f.Drop(1))
	holds(t, f)
}

// P17.2: of several errors the first one; and who is refused is no subsurface.
func TestSubRefused(t *testing.T) {
	f := made(t, 5)
	may(t, f.Sub(2, 1), f.Sub(3, 2), f.Sub(4, 3))
	was := told(f, 1, 2, 3, 4, 5)
	wrong(t, api.ErrRole, f.Sub(2, 1), f.Sub(2, 5), f.Sub(2, 2), f.Sub(2, 4), f.Sub(4, 5))
	wrong(t, api.ErrPlace, f.Sub(1, 1), f.Sub(1, 2), f.Sub(1, 3), f.Sub(1, 4), f.Sub(5, 5))
	if told(f, 1, 2, 3, 4, 5) != was {
		t.Error("a refused call turned something")
	}
	may(t, f.Unsub(3), f.Sub(1, 3), f.Sub(5, 2)) // the ring is open: 3 is a root, 1 in it
	wrong(t, api.ErrPlace, f.Sub(3, 2), f.Sub(3, 5), f.Sub(3, 4))
}

// P17.2: a subsurface is on top, at 0, 0, when its parent is committed; and sync by itself, each time anew.
func TestSub(t *testing.T) {
	f := made(t, 3)
	may(t, f.Sub(3, 1), f.Sub(2, 1), f.Sync(2, false))
	is(t, f.Pending(1), api.State{Ordered: true, Order: []int{0, 3, 2}, Places: places{{ID: 3}, {ID: 2}}})
	is(t, f.Current(1), first)
	if f.Parent(2) != 1 || f.Parent(3) != 1 || f.Parent(1) != 0 || !f.Synced(3) || f.Synced(2) || f.Synced(1) {
		t.Error(f.Parent(2), f.Synced(2))
	}
	may(t, f.Position(3, 4, 5), f.Unsub(3), f.Sub(3, 1), f.Unsub(2), f.Sub(2, 3))
	is(t, f.Pending(1), api.State{Ordered: true, Order: []int{0, 3}, Places: places{{ID: 3}}})
	if !f.Synced(2) || f.Parent(2) != 3 {
		t.Error("not sync again")
	}
}

// latest is a forest in which 2 is in 1, and 3 and 4 in 2, all of it committed; 5 and 6 are on their own.
func latest(t *testing.T) *forest.Forest {
	t.Helper()
	f := made(t, 6)
	may(t, f.Sub(2, 1), f.Sub(3, 2), f.Sub(4, 2))
	commits(t, f, 2)
	commits(t, f, 1, 1, 2)
	is(t, f.Current(2), api.State{All: true, Order: []int{0, 3, 4}, Places: places{{ID: 3}, {ID: 4}}})
	return f
}

// P17.2, P17.3: the latest order is the pending one, else the cached one, else the current one; an order that is not Ordered is none.
func TestLatest(t *testing.T) {
	f := latest(t)
	may(t, f.Sub(5, 2)) // by the current one
	is(t, f.Pending(2), api.State{Ordered: true, Order: []int{0, 3, 4, 5}, Places: places{{ID: 5}}})
	may(t, f.Below(5, 2)) // by the pending one
	is(t, f.Pending(2), api.State{Ordered: true, Order: []int{5, 0, 3, 4}, Places: places{{ID: 5}}})
	commits(t, f, 2)
	may(t, f.Attach(2, 1), f.Position(3, 1, 1)) // pending is not Ordered by these
	is(t, f.Pending(2), api.State{Attach: true, Buffer: 1, Places: places{{ID: 3, X: 1, Y: 1}}})
	may(t, f.Above(3, 4)) // by the cached one
	is(t, f.Pending(2), api.State{Attach: true, Buffer: 1, Ordered: true, Order: []int{5, 0, 4, 3}, Places: places{{ID: 3, X: 1, Y: 1}}})
	is(t, f.Cached(2), api.State{Ordered: true, Order: []int{5, 0, 3, 4}, Places: places{{ID: 5}}})
	may(t, f.Sub(6, 2))
	commits(t, f, 1, 1, 2)
	is(t, f.Current(2), api.State{All: true, Order: []int{5, 0, 3, 4}, Places: places{{ID: 3}, {ID: 4}, {ID: 5}}})
	commits(t, f, 2)
	commits(t, f, 1, 1, 2)
	is(t, f.Current(2), api.State{Buffer: 1, All: true, Order: []int{5, 0, 4, 3, 6}, Places: places{{ID: 3, X: 1, Y: 1}, {ID: 4}, {ID: 5}, {ID: 6}}})
}

// P17.2: who is no subsurface any more is out of all three states at once; the rest of them stays.
func TestUnsub(t *testing.T) {
	f := latest(t)
	may(t, f.Below(3, 2), f.Position(3, 1, 1), f.Position(4, 2, 2))
	commits(t, f, 2)
	may(t, f.Above(3, 4), f.Position(3, 5, 5), f.Frame(2, 9), f.Attach(3, 33))
	commits(t, f, 3)
	may(t, f.Unsub(3))
	is(t, f.Pending(2), api.State{Frames: []int{9}, Ordered: true, Order: []int{0, 4}})
	is(t, f.Cached(2), api.State{Ordered: true, Order: []int{0, 4}, Places: places{{ID: 4, X: 2, Y: 2}}})
	is(t, f.Current(2), api.State{All: true, Order: []int{0, 4}, Places: places{{ID: 4}}})
	is(t, f.Cached(3), api.State{Attach: true, Buffer: 33})
	if f.Parent(3) != 0 || f.Synced(3) || f.Parent(4) != 2 {
		t.Error(f.Parent(3))
	}
	wrong(t, api.ErrRole, f.Unsub(3), f.Unsub(1), f.Position(3, 1, 1), f.Above(3, 4), f.Below(3, 2), f.Sync(3, true))
	wrong(t, api.ErrPlace, f.Above(4, 3), f.Below(4, 3))
	commits(t, f, 3, 3) // what waited in it comes now
	is(t, f.Current(3), api.State{Buffer: 33, All: true, Order: []int{0}})
}

// P17.2: an order that was to come is still to come when its only child is gone; a place is not.
func TestUnsubLeft(t *testing.T) {
	f := made(t, 3)
	may(t, f.Sub(2, 1), f.Sub(3, 2))
	commits(t, f, 1, 1)
	commits(t, f, 2)
	may(t, f.Unsub(3))
	is(t, f.Cached(2), api.State{Ordered: true, Order: []int{0}})
	commits(t, f, 1, 1, 2)
	may(t, f.Sub(3, 2))
	commits(t, f, 2)
	commits(t, f, 1, 1, 2)
	may(t, f.Position(3, 1, 1))
	commits(t, f, 2)
	may(t, f.Unsub(3))
	is(t, f.Cached(2), api.State{})
	commits(t, f, 1, 1)
}

// P17.3: each call turns its own part of what is pending, and nothing else; a later one stands in the place of an earlier one, or behind it.
func TestPending(t *testing.T) {
	f := made(t, 1)
	a, b := api.Rect{X: 1, Y: 2, W: 3, H: 4}, api.Rect{X: math.MinInt, W: -1, H: math.MaxInt}
	for i, x := range []struct {
		call func() error
		want api.State
	}{
		{func() error { return f.Attach(1, 5) }, api.State{Attach: true, Buffer: 5}},
		{func() error { return f.Attach(1, -7) }, api.State{Attach: true, Buffer: -7}},
		{func() error { return f.Attach(1, 0) }, api.State{Attach: true}},
		{func() error { return f.Damage(1, a) }, api.State{Attach: true, Damage: []api.Rect{a}}},
		{func() error { return f.Damage(1, b) }, api.State{Attach: true, Damage: []api.Rect{a, b}}},
		{func() error { return f.Damage(1, a) }, api.State{Attach: true, Damage: []api.Rect{a, b, a}}},
		{func() error { return f.Frame(1, 9) }, api.State{Attach: true, Damage: []api.Rect{a, b, a}, Frames: []int{9}}},
		{func() error { return f.Frame(1, -1) }, api.State{Attach: true, Damage: []api.Rect{a, b, a}, Frames: []int{9, -1}}},
		{func() error { return f.Frame(1, 9) }, api.State{Attach: true, Damage: []api.Rect{a, b, a}, Frames: []int{9, -1, 9}}},
	} {
		may(t, x.call())
		if got := f.Pending(1); !like(got, x.want) {
			t.Errorf("%d: %+v", i, got)
		}
		is(t, f.Current(1), first)
		is(t, f.Cached(1), api.State{})
	}
}

// P17.3: where input comes: all and no region, or a region as it is, whatever it is.
func TestInput(t *testing.T) {
	f := made(t, 1)
	l := []api.Rect{{X: 1, W: 1, H: 1}, {W: -1}, {X: 1, W: 1, H: 1}}
	may(t, f.Input(1, true, l))
	is(t, f.Pending(1), api.State{Input: true, All: true})
	may(t, f.Input(1, false, l))
	is(t, f.Pending(1), api.State{Input: true, Region: l})
	may(t, f.Input(1, true, nil))
	is(t, f.Pending(1), api.State{Input: true, All: true})
	may(t, f.Input(1, false, nil))
	is(t, f.Pending(1), api.State{Input: true})
	is(t, f.Current(1), first)
	commits(t, f, 1, 1)
	is(t, f.Current(1), api.State{Order: []int{0}})
}

// P17.3: a place waits in the parent, cut to the edges.
func TestPosition(t *testing.T) {
	for _, x := range []struct{ at, want int }{
		{0, 0}, {-3, -3}, {edge, edge}, {edge + 1, edge}, {edge - 1, edge - 1}, {-edge, -edge}, {-edge - 1, -edge},
		{1 - edge, 1 - edge}, {math.MaxInt, edge}, {math.MinInt, -edge}, {1 << 32, edge}, {-1 << 32, -edge},
	} {
		f := made(t, 3)
		may(t, f.Sub(2, 1), f.Sub(3, 1))
		commits(t, f, 1, 1)
		may(t, f.Position(2, x.at, 7), f.Position(3, 8, x.at), f.Position(2, x.at, 6))
		is(t, f.Pending(1), api.State{Places: places{{ID: 2, X: x.want, Y: 6}, {ID: 3, X: 8, Y: x.want}}})
		is(t, f.Pending(2), api.State{})
		is(t, f.Current(1), api.State{All: true, Order: []int{0, 2, 3}, Places: places{{ID: 2}, {ID: 3}}})
		wrong(t, api.ErrRole, f.Position(1, x.at, x.at))
	}
}

// P17.3: beside a sibling, or beside the parent; nobody else.
func TestPlace(t *testing.T) {
	for i, x := range []struct {
		above  bool
		id, by int
		want   []int
	}{
		{true, 2, 3, []int{0, 3, 2, 4}},
		{true, 2, 4, []int{0, 3, 4, 2}},
		{true, 2, 10, []int{0, 2, 3, 4}},
		{true, 4, 10, []int{0, 4, 2, 3}},
		{true, 4, 3, []int{0, 2, 3, 4}},
		{false, 2, 10, []int{2, 0, 3, 4}},
		{false, 4, 10, []int{4, 0, 2, 3}},
		{false, 4, 2, []int{0, 4, 2, 3}},
		{false, 2, 4, []int{0, 3, 2, 4}},
		{false, 3, 4, []int{0, 2, 3, 4}},
	} {
		f := forest.New()
		may(t, f.Add(10), f.Add(2), f.Add(3), f.Add(4), f.Sub(2, 10), f.Sub(3, 10), f.Sub(4, 10))
		commits(t, f, 10, 10)
		call := f.Below
		if x.above {
			call = f.Above
		}
		may(t, call(x.id, x.by))
		if p := f.Pending(10); !like(p, api.State{Ordered: true, Order: x.want}) {
			t.Errorf("%d: %+v", i, p)
		}
		is(t, f.Current(10), api.State{All: true, Order: []int{0, 2, 3, 4}, Places: places{{ID: 2}, {ID: 3}, {ID: 4}}})
		commits(t, f, 10, 10)
		if got := f.Current(10).Order; !slices.Equal(got, x.want) {
			t.Error(i, got)
		}
	}
}

// P17.3: 0, the subsurface itself, its child, its parent's parent, a stranger, nobody: beside none of them.
func TestPlaceRefused(t *testing.T) {
	f := made(t, 6)
	may(t, f.Sub(2, 1), f.Sub(3, 2), f.Sub(4, 3), f.Sub(5, 2))
	was := told(f, 1, 2, 3, 4, 5, 6)
	for _, by := range append([]int{3, 4, 6, 7, -2, -5}, far...) {
		wrong(t, api.ErrPlace, f.Above(3, by), f.Below(3, by))
		wrong(t, api.ErrRole, f.Above(1, by), f.Below(1, by), f.Above(6, by), f.Below(6, by))
	}
	if told(f, 1, 2, 3, 4, 5, 6) != was {
		t.Error("a refused call turned something")
	}
	may(t, f.Above(3, 5), f.Below(3, 2), f.Above(5, 3))
}

// P17.3: a sibling that is in the parent's pending order alone is one; one that is out again is none.
func TestPlaceByPending(t *testing.T) {
	f := made(t, 4)
	may(t, f.Sub(2, 1), f.Sub(3, 1))
	commits(t, f, 1, 1)
	wrong(t, api.ErrPlace, f.Above(2, 4))
	may(t, f.Sub(4, 1), f.Above(2, 4))
	is(t, f.Pending(1), api.State{Ordered: true, Order: []int{0, 3, 4, 2}, Places: places{{ID: 4}}})
	may(t, f.Unsub(4))
	wrong(t, api.ErrPlace, f.Above(2, 4))
}

// P17.3: by itself, or by one of its parents, however far up; nobody without a parent.
func TestSynced(t *testing.T) {
	for bits := range 16 {
		f := made(t, 5)
		on := func(id int) bool { return bits>>(id-2)&1 != 0 }
		for id := 2; id <= 5; id++ {
			may(t, f.Sub(id, id-1))
		}
		for id := 2; id <= 5; id++ {
			may(t, f.Sync(id, on(id)))
		}
		any := false
		for id := 1; id <= 5; id++ {
			any = any || id > 1 && on(id)
			if f.Synced(id) != any {
				t.Errorf("%b: %d: %v", bits, id, !any)
			}
		}
		wrong(t, api.ErrRole, f.Sync(1, true), f.Sync(1, false))
		may(t, f.Unsub(3))
		if f.Synced(3) || f.Synced(4) != on(4) || f.Synced(5) != (on(4) || on(5)) {
			t.Errorf("%b: behind Unsub", bits)
		}
	}
}

// P17.4: the document's example, and what each state is at each step.
func TestExample(t *testing.T) {
	f := made(t, 2)
	may(t, f.Sub(2, 1), f.Frame(2, 9))
	commits(t, f, 2)
	is(t, f.Pending(2), api.State{})
	is(t, f.Cached(2), api.State{Frames: []int{9}})
	is(t, f.Current(2), first)
	commits(t, f, 1, 1, 2)
	is(t, f.Cached(2), api.State{})
	is(t, f.Current(2), api.State{All: true, Order: []int{0}, Frames: []int{9}})
	is(t, f.Pending(1), api.State{})
	is(t, f.Cached(1), api.State{})
	is(t, f.Current(1), api.State{All: true, Order: []int{0, 2}, Places: places{{ID: 2}}})
}

// P17.4: a surface that waits for nobody is applied, even if there is nothing to come; one that waits is not told, with nothing to come or with something.
func TestCommitNothing(t *testing.T) {
	f := made(t, 2)
	commits(t, f, 1, 1)
	is(t, f.Current(1), first)
	may(t, f.Sub(2, 1))
	commits(t, f, 2)
	is(t, f.Cached(2), api.State{})
	commits(t, f, 1, 1)
	commits(t, f, 2)
	if l, err := f.Commit(2); l != nil || err != nil {
		t.Error(l, err)
	}
}

// P17.4: what waits is merged, commit by commit.
func TestCommitMerges(t *testing.T) {
	f := made(t, 2)
	a, b := api.Rect{W: 1, H: 1}, api.Rect{X: 5, W: 2, H: 2}
	may(t, f.Sub(2, 1), f.Attach(2, 5), f.Damage(2, a), f.Frame(2, 1), f.Input(2, false, []api.Rect{a}))
	commits(t, f, 2)
	may(t, f.Damage(2, b), f.Frame(2, 2))
	commits(t, f, 2)
	is(t, f.Cached(2), api.State{Attach: true, Buffer: 5, Damage: []api.Rect{a, b}, Frames: []int{1, 2}, Input: true, Region: []api.Rect{a}})
	may(t, f.Attach(2, 6), f.Input(2, true, nil))
	commits(t, f, 2)
	is(t, f.Cached(2), api.State{Attach: true, Buffer: 6, Damage: []api.Rect{a, b}, Frames: []int{1, 2}, Input: true, All: true})
	may(t, f.Attach(2, 7), f.Frame(2, 3))
	commits(t, f, 1, 1, 2)
	is(t, f.Current(2), api.State{Buffer: 6, All: true, Order: []int{0}, Frames: []int{1, 2}})
	is(t, f.Pending(2), api.State{Attach: true, Buffer: 7, Frames: []int{3}})
	commits(t, f, 2)
	commits(t, f, 1, 1, 2)
	is(t, f.Current(2), api.State{Buffer: 7, All: true, Order: []int{0}, Frames: []int{1, 2, 3}})
}

// P17.4: in the order that the parent has now, each with its own children ahead of the next one.
func TestCommitOrder(t *testing.T) {
	f := made(t, 7)
	may(t, f.Sub(2, 1), f.Sub(3, 1), f.Sub(4, 1), f.Sub(5, 3), f.Sub(6, 3), f.Sub(7, 5))
	may(t, f.Below(4, 1), f.Above(2, 3), f.Below(6, 5))
	for id := 7; id >= 2; id-- {
		may(t, f.Frame(id, id))
		commits(t, f, id)
	}
	commits(t, f, 1, 1, 4, 3, 6, 5, 7, 2)
	// the order that comes with the commit itself counts, not the one that was
	for _, id := range []int{2, 3, 4} {
		may(t, f.Frame(id, id))
		commits(t, f, id)
	}
	may(t, f.Above(4, 2), f.Below(2, 1))
	commits(t, f, 1, 1, 2, 3, 4)
}

// P17.4: who is not in its parent's current order yet waits on, and so does what waits in it.
func TestCommitNotThere(t *testing.T) {
	f := made(t, 3)
	may(t, f.Sub(2, 1), f.Sub(3, 2))
	for _, id := range []int{2, 3} {
		may(t, f.Attach(id, id))
	}
	commits(t, f, 3)
	commits(t, f, 1, 1) // 2 has not said that 3 is in it
	is(t, f.Cached(3), api.State{Attach: true, Buffer: 3})
	commits(t, f, 2)
	is(t, f.Current(2), first)
	commits(t, f, 1, 1, 2, 3)
	is(t, f.Current(3), api.State{Buffer: 3, All: true, Order: []int{0}})
}

// P17.4: a child that has nothing cached is not applied, but its children are gone through.
func TestCommitThrough(t *testing.T) {
	f := made(t, 4)
	may(t, f.Sub(2, 1), f.Sub(3, 2), f.Sub(4, 3))
	commits(t, f, 3)
	commits(t, f, 2)
	commits(t, f, 1, 1, 2, 3)
	may(t, f.Frame(4, 1))
	commits(t, f, 4)
	commits(t, f, 1, 1, 4)
	commits(t, f, 1, 1)
}

// P17.4: each part of what waits is something, even a place, an input region, an order, damage, no buffer.
func TestCommitParts(t *testing.T) {
	for i, turn := range []func(f *forest.Forest) error{
		func(f *forest.Forest) error { return f.Attach(2, 0) },
		func(f *forest.Forest) error { return f.Damage(2, api.Rect{}) },
		func(f *forest.Forest) error { return f.Frame(2, 0) },
		func(f *forest.Forest) error { return f.Input(2, false, nil) },
		func(f *forest.Forest) error { return f.Position(3, 0, 0) },
		func(f *forest.Forest) error { return f.Above(3, 2) },
	} {
		f := latest(t)
		may(t, turn(f))
		commits(t, f, 2)
		if got, err := f.Commit(1); err != nil || !slices.Equal(got, []int{1, 2}) {
			t.Error(i, got, err)
		}
		commits(t, f, 1, 1)
	}
}

// P17.4: who is not Synced is applied by its own commit alone, and what is below it with it; a parent's commit passes it by.
func TestCommitDesync(t *testing.T) {
	f := made(t, 4)
	may(t, f.Sub(2, 1), f.Sub(3, 2), f.Sub(4, 3), f.Sync(2, false), f.Sync(4, false))
	commits(t, f, 3)
	commits(t, f, 2, 2, 3)
	commits(t, f, 1, 1)
	for _, id := range []int{4, 3} { // 4 is desync by itself, but 3 waits, and it with it
		may(t, f.Frame(id, id))
		commits(t, f, id)
	}
	commits(t, f, 1, 1)
	is(t, f.Cached(3), api.State{Frames: []int{3}})
	commits(t, f, 2, 2, 3, 4)
	may(t, f.Sync(3, false), f.Frame(4, 5))
	commits(t, f, 4, 4)
	if l := f.Take(4); !slices.Equal(l, []int{4, 5}) {
		t.Error(l)
	}
}

// P17.4: what was cached stays so when a surface waits no more, until its own commit, and comes ahead of what is committed then.
func TestCommitCached(t *testing.T) {
	f := made(t, 2)
	may(t, f.Sub(2, 1))
	commits(t, f, 1, 1)
	may(t, f.Attach(2, 5), f.Frame(2, 1))
	commits(t, f, 2)
	may(t, f.Sync(2, false))
	commits(t, f, 1, 1)
	is(t, f.Cached(2), api.State{Attach: true, Buffer: 5, Frames: []int{1}})
	is(t, f.Current(2), first)
	may(t, f.Frame(2, 2))
	commits(t, f, 2, 2)
	is(t, f.Cached(2), api.State{})
	is(t, f.Current(2), api.State{Buffer: 5, All: true, Order: []int{0}, Frames: []int{1, 2}})
	may(t, f.Sync(2, true), f.Attach(2, 6))
	commits(t, f, 2)
	may(t, f.Sync(2, false), f.Attach(2, 0))
	commits(t, f, 2, 2)
	is(t, f.Current(2), api.State{All: true, Order: []int{0}, Frames: []int{1, 2}})
}

// P17.5: frames are taken once, in the order they were asked for; those that are not committed, or wait, are not.
func TestTake(t *testing.T) {
	f := made(t, 2)
	may(t, f.Sub(2, 1), f.Frame(1, 4), f.Frame(1, 3))
	if l := f.Take(1); len(l) != 0 {
		t.Error("not committed", l)
	}
	commits(t, f, 1, 1)
	may(t, f.Frame(1, 4))
	commits(t, f, 1, 1)
	may(t, f.Frame(2, 8), f.Frame(1, 1))
	commits(t, f, 2)
	if l := f.Take(1); !slices.Equal(l, []int{4, 3, 4}) || len(f.Take(1)) != 0 || len(f.Take(2)) != 0 {
		t.Error(l)
	}
	is(t, f.Current(1), api.State{All: true, Order: []int{0, 2}, Places: places{{ID: 2}}})
	is(t, f.Pending(1), api.State{Frames: []int{1}})
	is(t, f.Cached(2), api.State{Frames: []int{8}})
	commits(t, f, 1, 1, 2)
	if l, m := f.Take(1), f.Take(2); !slices.Equal(l, []int{1}) || !slices.Equal(m, []int{8}) {
		t.Error(l, m)
	}
}

// P17.5: held is what waits and what is there, above 0, each once, rising; not what is pending.
func TestHeld(t *testing.T) {
	f := made(t, 5)
	for id, buffer := range []int{9, 3, 9, -4, 0} {
		may(t, f.Attach(id+1, buffer))
	}
	holds(t, f)
	for id := 1; id <= 5; id++ {
		commits(t, f, id, id)
	}
	holds(t, f, 3, 9)
	may(t, f.Sub(2, 1), f.Attach(2, 7))
	holds(t, f, 3, 9)
	commits(t, f, 2)
	holds(t, f, 3, 7, 9)
	may(t, f.Attach(2, 3))
	commits(t, f, 2) // 7 waits no more
	holds(t, f, 3, 9)
	may(t, f.Attach(2, -1))
	commits(t, f, 2)
	holds(t, f, 3, 9)
	commits(t, f, 1, 1, 2)
	holds(t, f, 9)
	may(t, f.Attach(1, math.MaxInt))
	commits(t, f, 1, 1)
	holds(t, f, 9, math.MaxInt)
	may(t, f.Frame(2, 1))
	commits(t, f, 2) // cached, but with no buffer to come
	holds(t, f, 9, math.MaxInt)
}

// P17.5: a tree from the lowest one on, each moved by all places above it; without a buffer a surface is not seen, and nothing in it.
func TestWalk(t *testing.T) {
	f := made(t, 6)
	for id := 1; id <= 6; id++ {
		may(t, f.Attach(id, id))
	}
	may(t, f.Sub(2, 1), f.Sub(3, 1), f.Sub(4, 3), f.Sub(5, 3), f.Below(2, 1), f.Below(4, 3))
	may(t, f.Position(2, -1, 1), f.Position(3, 10, 20), f.Position(4, 100, 200), f.Position(5, -10, -20))
	for id := 5; id > 1; id-- {
		commits(t, f, id)
	}
	sees(t, f, 1)
	commits(t, f, 1, 1, 2, 3, 4, 5)
	whole := places{{ID: 2, X: -1, Y: 1}, {ID: 1}, {ID: 4, X: 110, Y: 220}, {ID: 3, X: 10, Y: 20}, {ID: 5}}
	sees(t, f, 1, whole...)
	sees(t, f, 3, api.Child{ID: 4, X: 100, Y: 200}, api.Child{ID: 3}, api.Child{ID: 5, X: -10, Y: -20})
	sees(t, f, 5, api.Child{ID: 5})
	sees(t, f, 6)
	may(t, f.Sync(3, false), f.Attach(3, 0))
	commits(t, f, 3, 3)
	sees(t, f, 1, whole[:2]...)
	sees(t, f, 3)
	sees(t, f, 4, api.Child{ID: 4})
	may(t, f.Attach(3, -3)) // any number but 0 is a buffer here
	commits(t, f, 3, 3)
	sees(t, f, 1, whole...)
	may(t, f.Attach(1, 0))
	commits(t, f, 1, 1)
	sees(t, f, 1)
	sees(t, f, 2, api.Child{ID: 2})
}

// P17.5: a chain of as many surfaces as may be, each as far as may be from the one it is in.
func TestDeep(t *testing.T) {
	f := made(t, most)
	for id := 2; id <= most; id++ {
		may(t, f.Sub(id, id-1), f.Position(id, math.MaxInt, math.MinInt))
	}
	for id := most; id >= 1; id-- {
		may(t, f.Attach(id, 1))
		f.Commit(id)
	}
	var want places
	for i := range most {
		want = append(want, api.Child{ID: i + 1, X: i * edge, Y: -i * edge})
	}
	sees(t, f, 1, want...)
	wrong(t, api.ErrPlace, f.Sub(1, most))
	may(t, f.Drop(most/2))
	sees(t, f, 1, want[:most/2-1]...)
}

// P17.5: all in one parent.
func TestWide(t *testing.T) {
	f := made(t, most)
	want := places{{ID: 1}}
	applied := []int{1}
	for id := 2; id <= most; id++ {
		may(t, f.Sub(id, 1), f.Position(id, id, -id), f.Attach(id, id))
		commits(t, f, id)
		want, applied = append(want, api.Child{ID: id, X: id, Y: -id}), append(applied, id)
	}
	may(t, f.Attach(1, 1))
	commits(t, f, 1, applied...)
	sees(t, f, 1, want...)
}

// P17.6: what is not committed is not seen: whatever is to come, walks and what surfaces have stay.
func TestNotCommitted(t *testing.T) {
	f := latest(t)
	for id := 4; id >= 1; id-- {
		may(t, f.Attach(id, id))
		f.Commit(id)
	}
	may(t, f.Sub(5, 4), f.Attach(5, 5), f.Attach(6, 6))
	now := func() string {
		s := ""
		for id := 1; id <= 6; id++ {
			s += fmt.Sprint(f.Walk(id), f.Current(id))
		}
		return s
	}
	was := now()
	for i, err := range []error{
		f.Attach(1, 0), f.Attach(3, 9), f.Damage(1, api.Rect{W: 1, H: 1}), f.Frame(1, 3), f.Input(1, false, nil),
		f.Position(2, 5, 5), f.Position(3, 5, 5), f.Below(3, 2), f.Above(3, 4), f.Sync(3, false), f.Sync(2, false), f.Sync(2, true),
		f.Sub(6, 2), f.Unsub(6), f.Sub(6, 1), f.Drop(6), f.Add(6),
	} {
		may(t, err)
		if now() != was {
			t.Fatal(i, "is seen")
		}
	}
	commits(t, f, 2) // it waits for 1
	commits(t, f, 3)
	if now() != was {
		t.Error("what waits is seen")
	}
	commits(t, f, 1, 1, 2, 3)
	if now() == was {
		t.Error("what is committed is not seen")
	}
}

// P17.6: what is dropped is seen no more at once, with all that is in it; so is what is no subsurface any more.
func TestGone(t *testing.T) {
	f := latest(t)
	for id := 4; id >= 1; id-- {
		may(t, f.Attach(id, id))
		f.Commit(id)
	}
	sees(t, f, 1, api.Child{ID: 1}, api.Child{ID: 2}, api.Child{ID: 3}, api.Child{ID: 4})
	may(t, f.Unsub(4))
	sees(t, f, 1, api.Child{ID: 1}, api.Child{ID: 2}, api.Child{ID: 3})
	may(t, f.Drop(2))
	sees(t, f, 1, api.Child{ID: 1})
	sees(t, f, 3, api.Child{ID: 3})
}

// fill writes over a list, and over its spare room.
func fill[T any](l []T, with T) {
	for i := range l[:cap(l)] {
		l[:cap(l)][i] = with
	}
}

// fillAll writes over all lists of a state.
func fillAll(s api.State) {
	fill(s.Damage, api.Rect{X: 77})
	fill(s.Frames, 77)
	fill(s.Region, api.Rect{X: 77})
	fill(s.Order, 77)
	fill(s.Places, api.Child{ID: 77})
}

// R3: what is handed in is neither changed nor kept; what is answered is its own memory, spare room too.
func TestMemory(t *testing.T) {
	f := latest(t)
	room := []api.Rect{{W: 1, H: 1}, {W: 2, H: 2}, {W: 3, H: 3}}
	was := slices.Clone(room)
	whole := func() {
		may(t, f.Input(2, false, room[:2]), f.Damage(2, api.Rect{W: 9}), f.Frame(2, 9), f.Attach(2, 9), f.Position(3, 1, 2), f.Above(3, 4))
	}
	whole()
	may(t, f.Attach(1, 1))
	commits(t, f, 2)
	commits(t, f, 1, 1, 2)
	whole()
	commits(t, f, 2)
	whole()
	if !slices.Equal(room, was) {
		t.Error("changed", room)
	}
	before := told(f, 1, 2, 3, 4)
	fill(room, api.Rect{X: 77})
	for id := 1; id <= 4; id++ {
		fillAll(f.Pending(id))
		fillAll(f.Cached(id))
		fillAll(f.Current(id))
		fill(f.Walk(id), api.Child{ID: 77})
	}
	fill(f.All(), 77)
	fill(f.Held(), 77)
	if after := told(f, 1, 2, 3, 4); after != before {
		t.Errorf("%s\n%s", before, after)
	}
	l, _ := f.Commit(1)
	fill(l, 77)
	keep := f.Current(2)
	fill(f.Take(2), 77)
	keep.Frames = nil
	is(t, f.Current(2), keep)
	may(t, f.Frame(2, 5))
	commits(t, f, 2)
	commits(t, f, 1, 1, 2)
	if l := f.Take(2); !slices.Equal(l, []int{9, 5}) {
		t.Error(l)
	}
}

// R4: two forests have nothing in common.
func TestApart(t *testing.T) {
	f, g := made(t, 3), made(t, 3)
	was := told(g, 1, 2, 3)
	may(t, f.Sub(2, 1), f.Attach(1, 1), f.Position(2, 1, 1), f.Drop(3))
	commits(t, f, 1, 1)
	if told(g, 1, 2, 3) != was {
		t.Error("one is the other one")
	}
}
