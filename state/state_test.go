package state_test

import (
	"math"
	"reflect"
	"slices"
	"testing"

	"tableau/api"
	"tableau/state"
)

type places = []api.Child

// of is a child's place.
func of(id, x, y int) api.Child { return api.Child{ID: id, X: x, Y: y} }

// rects are rectangles, one for each number.
func rects(xs ...int) []api.Rect {
	var l []api.Rect
	for _, x := range xs {
		l = append(l, api.Rect{X: x, Y: -x, W: 1, H: 2})
	}
	return l
}

// plain is a state in which an empty list is nil, so that two of them may be held against each other by DeepEqual, without the package's own Same.
func plain(s api.State) api.State {
	v := reflect.ValueOf(&s).Elem()
	for i := range v.NumField() {
		if f := v.Field(i); f.Kind() == reflect.Slice && f.Len() == 0 {
			f.SetZero()
		}
	}
	return s
}

// like tells whether two states are the same.
func like(a, b api.State) bool { return reflect.DeepEqual(plain(a), plain(b)) }

// full is a state in which each part is something, told apart by n.
func full(n int) api.State {
	return api.State{
		Attach: true, Buffer: n, Damage: rects(n, n+1), Frames: []int{n, n + 1},
		Input: true, All: n%2 == 0, Region: rects(n + 2), Ordered: true, Order: []int{n, 0},
		Places: places{of(1, n, n), of(n, 3, 4)},
	}
}

// parts are states that each have one part alone, in the order of the fields.
func parts() []api.State {
	return []api.State{
		{Attach: true}, {Buffer: 1}, {Damage: rects(1)}, {Frames: []int{1}}, {Input: true},
		{All: true}, {Region: rects(1)}, {Ordered: true}, {Order: []int{1}}, {Places: places{of(1, 0, 0)}},
	}
}

// far are numbers at the ends of what a number may be, and where parts of it end.
var far = []int{math.MinInt, -1 << 32, -1 << 31, -1, 0, 1, 1 << 31, 1 << 32, 1<<32 + 1, math.MaxInt}

// P15.1: in the place of the first one of its ID; behind all, if there is none.
func TestPut(t *testing.T) {
	for i, x := range []struct {
		l    places
		c    api.Child
		want places
	}{
		{nil, of(3, 1, 2), places{of(3, 1, 2)}},
		{places{}, of(0, 0, 0), places{of(0, 0, 0)}},
		{places{of(1, 1, 1)}, of(1, 5, 6), places{of(1, 5, 6)}},
		{places{of(1, 1, 1)}, of(2, 5, 6), places{of(1, 1, 1), of(2, 5, 6)}},
		{places{of(1, 1, 1), of(2, 2, 2), of(3, 3, 3)}, of(1, 9, 8), places{of(1, 9, 8), of(2, 2, 2), of(3, 3, 3)}},
		{places{of(1, 1, 1), of(2, 2, 2), of(3, 3, 3)}, of(2, 9, 8), places{of(1, 1, 1), of(2, 9, 8), of(3, 3, 3)}},
		{places{of(1, 1, 1), of(2, 2, 2), of(3, 3, 3)}, of(3, 9, 8), places{of(1, 1, 1), of(2, 2, 2), of(3, 9, 8)}},
		{places{of(5, 0, 0), of(3, 0, 0)}, of(4, 0, 0), places{of(5, 0, 0), of(3, 0, 0), of(4, 0, 0)}},
		// the first one alone, where there are more
		{places{of(2, 1, 1), of(1, 2, 2), of(2, 3, 3), of(2, 4, 4)}, of(2, 7, 7), places{of(2, 7, 7), of(1, 2, 2), of(2, 3, 3), of(2, 4, 4)}},
		// by its ID alone: the place is no mark of it
		{places{of(1, 7, 7)}, of(2, 7, 7), places{of(1, 7, 7), of(2, 7, 7)}},
		{places{of(1, 2, 2)}, of(2, 1, 1), places{of(1, 2, 2), of(2, 1, 1)}},
	} {
		if got := state.Put(x.l, x.c); !slices.Equal(got, x.want) {
			t.Errorf("%d: %v", i, got)
		}
	}
}

// P15.1: the first one of that ID, or nothing.
func TestFind(t *testing.T) {
	l := places{of(2, 1, 1), of(1, 2, 2), of(2, 3, 3), of(0, 4, 4)}
	for i, x := range []struct {
		l    places
		id   int
		want api.Child
		ok   bool
	}{
		{nil, 0, api.Child{}, false},
		{places{}, 1, api.Child{}, false},
		{l, 2, of(2, 1, 1), true},
		{l, 1, of(1, 2, 2), true},
		{l, 0, of(0, 4, 4), true},
		{l, 3, api.Child{}, false},
		{l, -2, api.Child{}, false},
		{l[1:], 2, of(2, 3, 3), true},
		{l[:3], 0, api.Child{}, false},
		{places{{}}, 0, api.Child{}, true},
	} {
		if got, ok := state.Find(x.l, x.id); got != x.want || ok != x.ok {
			t.Errorf("%d: %v %v", i, got, ok)
		}
	}
}

// P15.1, R5: any number is an ID and a place, told apart to the last bit.
func TestFar(t *testing.T) {
	var l places
	for _, id := range far {
		if c, ok := state.Find(l, id); c != (api.Child{}) || ok {
			t.Error(id, c, ok)
		}
		l = state.Put(l, of(id, 1, 1))
	}
	for i, id := range far {
		x, y := far[len(far)-1-i], far[(i+3)%len(far)]
		l = state.Put(l, of(id, x, y))
		if c, ok := state.Find(l, id); c != of(id, x, y) || !ok || l[i] != c || len(l) != len(far) {
			t.Error(id, c, ok, l)
		}
	}
}

// P15.1: what a new surface has.
func TestFirst(t *testing.T) {
	f := state.First()
	if !like(f, api.State{All: true, Order: []int{0}}) || len(f.Order) != 1 {
		t.Error(f)
	}
	if !state.None(f) {
		t.Error("there is something to be turned by what a new surface has")
	}
	f.Order[0] = 9
	if g := state.First(); g.Order[0] != 0 {
		t.Error("one surface's order is another one's")
	}
}

// P15.1: each of six parts is to be turned, by itself and beside others; the others are not.
func TestNone(t *testing.T) {
	turns := []bool{true, false, true, true, true, false, false, true, false, true}
	for i, s := range parts() {
		if state.None(s) == turns[i] {
			t.Error(i, s)
		}
	}
	if !state.None(api.State{}) || state.None(full(2)) {
		t.Error("zero, or full")
	}
	if !state.None(api.State{Buffer: 7, All: true, Region: rects(1, 2), Order: []int{0, 4}}) {
		t.Error("what goes by a flag, without the flag")
	}
	if !state.None(api.State{Damage: []api.Rect{}, Frames: []int{}, Places: places{}, Order: []int{}, Region: []api.Rect{}}) {
		t.Error("empty lists")
	}
	// what is in a list does not count, that it is there does
	for i, s := range []api.State{{Damage: make([]api.Rect, 1)}, {Frames: make([]int, 1)}, {Places: make(places, 1)}} {
		if state.None(s) {
			t.Error(i, s)
		}
	}
}

// P15.1: two are the same if each part is.
func TestSame(t *testing.T) {
	all := parts()
	for i, a := range all {
		if !state.Same(a, all[i]) || !state.Same(a, parts()[i]) {
			t.Error(i, "is not itself")
		}
		for j, b := range all {
			if state.Same(a, b) != (i == j) {
				t.Error(i, j)
			}
		}
		if state.Same(a, api.State{}) || state.Same(api.State{}, a) {
			t.Error(i, "is nothing")
		}
	}
	if !state.Same(api.State{}, api.State{}) || !state.Same(full(3), full(3)) || state.Same(full(3), full(5)) {
		t.Error("whole ones")
	}
}

// P15.1: one part that differs is enough, however little of it does.
func TestSameNearly(t *testing.T) {
	for i, turn := range []func(*api.State){
		func(s *api.State) { s.Attach = false },
		func(s *api.State) { s.Buffer += 1 << 32 },
		func(s *api.State) { s.Damage[1].H++ },
		func(s *api.State) { s.Damage = s.Damage[:1] },
		func(s *api.State) { slices.Reverse(s.Damage) },
		func(s *api.State) { s.Frames[1] += 1 << 32 },
		func(s *api.State) { s.Frames = s.Frames[:1] },
		func(s *api.State) { slices.Reverse(s.Frames) },
		func(s *api.State) { s.Input = false },
		func(s *api.State) { s.All = !s.All },
		func(s *api.State) { s.Region[0].Y++ },
		func(s *api.State) { s.Region = nil },
		func(s *api.State) { s.Ordered = false },
		func(s *api.State) { s.Order[1]-- },
		func(s *api.State) { s.Order = append(s.Order, 0) },
		func(s *api.State) { slices.Reverse(s.Order) },
		func(s *api.State) { s.Places[0].ID++ },
		func(s *api.State) { s.Places[0].X++ },
		func(s *api.State) { s.Places[1].Y++ },
		func(s *api.State) { s.Places = s.Places[:1] },
		func(s *api.State) { slices.Reverse(s.Places) },
	} {
		a, b := full(4), full(4)
		turn(&b)
		if state.Same(a, b) || state.Same(b, a) {
			t.Error(i, a, b)
		}
	}
}

// P15.1, R3: nil and an empty list are one, and spare room is no part.
func TestSameEmpty(t *testing.T) {
	e := api.State{Damage: []api.Rect{}, Frames: []int{}, Region: rects(1, 2)[:0], Order: make([]int, 0, 9), Places: places{}}
	if !state.Same(e, api.State{}) || !state.Same(api.State{}, e) || !state.Same(e, e) {
		t.Error("empty lists")
	}
	a, b := full(2), full(2)
	b.Frames = append(make([]int, 0, 9), b.Frames...)
	b.Places = append(make(places, 0, 9), b.Places...)
	if !state.Same(a, b) {
		t.Error("spare room")
	}
}

// P15.2: the document's example.
func TestExample(t *testing.T) {
	got := state.Merge(api.State{Frames: []int{1}}, api.State{Frames: []int{2}})
	if !like(got, api.State{Frames: []int{1, 2}}) {
		t.Error(got)
	}
}

// P15.2: nothing ahead and nothing behind leave a state as it is, flags or not.
func TestMergeNothing(t *testing.T) {
	for i, s := range append(parts(), full(2), full(3), api.State{}, state.First()) {
		if got := state.Merge(s, api.State{}); !like(got, s) {
			t.Error(i, got)
		}
	}
	if got := state.Merge(api.State{}, full(2)); !like(got, full(2)) {
		t.Error(got)
	}
}

// P15.2: a part that goes by a flag is b's if b has the flag, as it is there, else a's, has a the flag or not.
func TestMergeFlags(t *testing.T) {
	for i, x := range []struct{ a, b, want api.State }{
		{api.State{Attach: true, Buffer: 5}, api.State{Attach: true, Buffer: 7}, api.State{Attach: true, Buffer: 7}},
		{api.State{Attach: true, Buffer: 5}, api.State{Attach: true}, api.State{Attach: true}},
		{api.State{Attach: true, Buffer: 5}, api.State{Buffer: 7}, api.State{Attach: true, Buffer: 5}},
		{api.State{Buffer: 5}, api.State{Attach: true, Buffer: 7}, api.State{Attach: true, Buffer: 7}},
		{api.State{Buffer: 5}, api.State{Buffer: 7}, api.State{Buffer: 5}},
		{api.State{}, api.State{Buffer: 7}, api.State{}},
		{api.State{Input: true, Region: rects(1)}, api.State{Input: true, All: true}, api.State{Input: true, All: true}},
		{api.State{Input: true, All: true}, api.State{Input: true, Region: rects(1)}, api.State{Input: true, Region: rects(1)}},
		{api.State{Input: true, All: true, Region: rects(1)}, api.State{Input: true}, api.State{Input: true}},
		{api.State{Input: true, Region: rects(1)}, api.State{All: true, Region: rects(2)}, api.State{Input: true, Region: rects(1)}},
		{api.State{All: true}, api.State{Input: true, Region: rects(2)}, api.State{Input: true, Region: rects(2)}},
		{api.State{All: true, Region: rects(1)}, api.State{Region: rects(2)}, api.State{All: true, Region: rects(1)}},
		{api.State{}, api.State{All: true, Region: rects(2)}, api.State{}},
		{api.State{Ordered: true, Order: []int{0, 1}}, api.State{Ordered: true, Order: []int{2}}, api.State{Ordered: true, Order: []int{2}}},
		{api.State{Ordered: true, Order: []int{0, 1}}, api.State{Ordered: true}, api.State{Ordered: true}},
		{api.State{Ordered: true, Order: []int{0, 1}}, api.State{Order: []int{2}}, api.State{Ordered: true, Order: []int{0, 1}}},
		{api.State{Order: []int{0, 1}}, api.State{Ordered: true, Order: []int{2}}, api.State{Ordered: true, Order: []int{2}}},
		{api.State{Order: []int{0, 1}}, api.State{Order: []int{2}}, api.State{Order: []int{0, 1}}},
		{api.State{}, api.State{Order: []int{2}}, api.State{}},
		// one flag does not speak for another part
		{
			api.State{Attach: true, Buffer: 5, Input: true, Region: rects(1), Ordered: true, Order: []int{0}},
			api.State{Buffer: 7, Input: true, Region: rects(2), Order: []int{3}},
			api.State{Attach: true, Buffer: 5, Input: true, Region: rects(2), Ordered: true, Order: []int{0}},
		},
	} {
		if got := state.Merge(x.a, x.b); !like(got, x.want) {
			t.Errorf("%d: %v", i, got)
		}
	}
}

// P15.2: lists of damage and frames are put together as they are; places are Put one by one.
func TestMergeLists(t *testing.T) {
	for i, x := range []struct{ a, b, want api.State }{
		{api.State{Damage: rects(3, 1)}, api.State{Damage: rects(1, 2)}, api.State{Damage: rects(3, 1, 1, 2)}},
		{api.State{}, api.State{Damage: make([]api.Rect, 2)}, api.State{Damage: make([]api.Rect, 2)}},
		{api.State{Frames: []int{4, 4}}, api.State{Frames: []int{4, 0, -1}}, api.State{Frames: []int{4, 4, 4, 0, -1}}},
		{
			api.State{Places: places{of(2, 1, 0), of(3, 0, 0)}},
			api.State{Places: places{of(4, 4, 4), of(3, 8, 9)}},
			api.State{Places: places{of(2, 1, 0), of(3, 8, 9), of(4, 4, 4)}},
		},
		{
			api.State{},
			api.State{Places: places{of(4, 1, 1), of(5, 2, 2), of(4, 3, 3)}},
			api.State{Places: places{of(4, 3, 3), of(5, 2, 2)}},
		},
		{
			api.State{Places: places{of(4, 1, 1), of(4, 2, 2)}},
			api.State{Places: places{of(4, 5, 5)}},
			api.State{Places: places{of(4, 5, 5), of(4, 2, 2)}},
		},
	} {
		if got := state.Merge(x.a, x.b); !like(got, x.want) {
			t.Errorf("%d: %v", i, got)
		}
	}
}

// P15.3: nothing is to be turned any more, whatever of it there was, but for frames and places.
func TestApply(t *testing.T) {
	now := api.State{
		Attach: true, Buffer: 1, Damage: rects(7), Frames: []int{8}, Input: true, All: true, Region: rects(6),
		Ordered: true, Order: []int{0}, Places: places{of(9, 1, 1), of(2, 0, 0)},
	}
	for i, x := range []struct{ s, want api.State }{
		{
			api.State{},
			api.State{Buffer: 1, Frames: []int{8}, All: true, Region: rects(6), Order: []int{0}, Places: places{of(9, 1, 1), of(2, 0, 0)}},
		},
		{
			api.State{Buffer: 3, All: false, Region: rects(5), Order: []int{4}},
			api.State{Buffer: 1, Frames: []int{8}, All: true, Region: rects(6), Order: []int{0}, Places: places{of(9, 1, 1), of(2, 0, 0)}},
		},
		{
			api.State{
				Attach: true, Buffer: 5, Damage: rects(1), Frames: []int{8, 1}, Input: true, Region: rects(3),
				Ordered: true, Order: []int{0, 2}, Places: places{of(2, 1, 0), of(3, 0, 0), of(2, 4, 4)},
			},
			api.State{Buffer: 5, Frames: []int{8, 8, 1}, Region: rects(3), Order: []int{0, 2}, Places: places{of(9, 1, 1), of(2, 4, 4), of(3, 0, 0)}},
		},
		{
			api.State{Attach: true, Input: true, Ordered: true},
			api.State{Frames: []int{8}, Places: places{of(9, 1, 1), of(2, 0, 0)}},
		},
		{
			api.State{Input: true, All: true},
			api.State{Buffer: 1, Frames: []int{8}, All: true, Order: []int{0}, Places: places{of(9, 1, 1), of(2, 0, 0)}},
		},
	} {
		if got := state.Apply(now, x.s); !like(got, x.want) {
			t.Errorf("%d: %v", i, got)
		}
	}
}

// P15.3: a new surface has what it was to have.
func TestApplyFirst(t *testing.T) {
	if got := state.Apply(state.First(), api.State{}); !like(got, state.First()) {
		t.Error(got)
	}
	got := state.Apply(state.First(), api.State{Attach: true, Buffer: 4, Damage: rects(1), Frames: []int{2}})
	if !like(got, api.State{Buffer: 4, Frames: []int{2}, All: true, Order: []int{0}}) {
		t.Error(got)
	}
}

// dice are numbers that look like any, the same ones at each run.
type dice uint32

// roll is from 0 to just ahead of n.
func (d *dice) roll(n int) int {
	*d = *d*1664525 + 1013904223
	return int(*d>>8) % n
}

// numbers are a few, some of them twice.
func (d *dice) numbers() []int {
	var l []int
	for range d.roll(4) {
		l = append(l, d.roll(6))
	}
	return l
}

// places are a few, some of them of one child; each of another one, if once.
func (d *dice) places(once bool) places {
	var l places
	for _, id := range d.numbers() {
		if !once || !slices.ContainsFunc(l, func(c api.Child) bool { return c.ID == id }) {
			l = append(l, of(id, d.roll(99), d.roll(99)))
		}
	}
	return l
}

// state is any; a flag does not hang on what it is for.
func (d *dice) state(once bool) api.State {
	return api.State{
		Attach: d.roll(2) == 0, Buffer: d.roll(9), Damage: rects(d.numbers()...), Frames: d.numbers(),
		Input: d.roll(2) == 0, All: d.roll(2) == 0, Region: rects(d.numbers()...),
		Ordered: d.roll(2) == 0, Order: d.numbers(), Places: d.places(once),
	}
}

// merged is what P15.2 says, part by part.
func merged(a, b api.State) api.State {
	var s api.State
	s.Attach, s.Buffer = a.Attach, a.Buffer
	if b.Attach {
		s.Attach, s.Buffer = b.Attach, b.Buffer
	}
	s.Input, s.All, s.Region = a.Input, a.All, a.Region
	if b.Input {
		s.Input, s.All, s.Region = b.Input, b.All, b.Region
	}
	s.Ordered, s.Order = a.Ordered, a.Order
	if b.Ordered {
		s.Ordered, s.Order = b.Ordered, b.Order
	}
	s.Damage, s.Frames = slices.Concat(a.Damage, b.Damage), slices.Concat(a.Frames, b.Frames)
	s.Places = put(a.Places, b.Places)
	return s
}

// applied is what P15.3 says, part by part.
func applied(now, s api.State) api.State {
	x := api.State{Buffer: now.Buffer, All: now.All, Region: now.Region, Order: now.Order}
	if s.Attach {
		x.Buffer = s.Buffer
	}
	if s.Input {
		x.All, x.Region = s.All, s.Region
	}
	if s.Ordered {
		x.Order = s.Order
	}
	x.Frames = slices.Concat(now.Frames, s.Frames)
	x.Places = put(now.Places, s.Places)
	return x
}

// put is the list with each of more put, told plainly.
func put(l, more places) places {
	l = slices.Clone(l)
next:
	for _, c := range more {
		for i := range l {
			if l[i].ID == c.ID {
				l[i] = c
				continue next
			}
		}
		l = append(l, c)
	}
	return l
}

// P15.1 to P15.3: any states, against what the promises say part by part.
func TestAny(t *testing.T) {
	d, same := dice(15), 0
	for range 20000 {
		a, b := d.state(false), d.state(false)
		if got := state.Merge(a, b); !like(got, merged(a, b)) || !state.Same(got, merged(a, b)) {
			t.Fatal(a, b, got)
		}
		if got := state.Apply(a, b); !like(got, applied(a, b)) || !state.Same(got, applied(a, b)) {
			t.Fatal(a, b, got)
		}
		// nearly all parts are taken over, so that Same says true often enough to be tried
		c := state.Merge(a, api.State{})
		if d.roll(2) == 0 {
			c.Places = d.places(false)
		}
		if state.Same(a, c) != like(a, c) {
			t.Fatal(a, c)
		}
		if like(a, c) {
			same++
		}
	}
	if same < 1000 || same > 19000 {
		t.Error("the states are too plain", same)
	}
}

// P15.4: of both at once it is as of one behind the other, where no child stands twice in a's Places; in now's and in b's it may.
func TestAtOnce(t *testing.T) {
	d, again := dice(4), 0
	for range 20000 {
		now, a, b := d.state(false), d.state(true), d.state(false)
		once, twice := state.Apply(now, state.Merge(a, b)), state.Apply(state.Apply(now, a), b)
		if !like(once, twice) {
			t.Fatal(now, a, b, once, twice)
		}
		for _, c := range a.Places {
			if _, ok := state.Find(b.Places, c.ID); ok {
				again++
			}
		}
	}
	if again < 1000 {
		t.Error("the states are too plain", again)
	}
}

// P15.4: where a child stands twice in a's Places, b's place of it is Put to the first one, and the other one is behind it.
func TestTwice(t *testing.T) {
	a := api.State{Places: places{of(1, 1, 1), of(1, 2, 2)}}
	b := api.State{Places: places{of(1, 3, 3)}}
	if got := state.Apply(api.State{}, state.Merge(a, b)); !like(got, api.State{Places: places{of(1, 2, 2)}}) {
		t.Error(got)
	}
	if got := state.Apply(state.Apply(api.State{}, a), b); !like(got, api.State{Places: places{of(1, 3, 3)}}) {
		t.Error(got)
	}
}

// roomy is the state, each of its lists with spare room that has something in it.
func roomy(s api.State) api.State {
	s.Damage = append(slices.Clone(s.Damage), rects(90, 91, 92)...)[:len(s.Damage)]
	s.Frames = append(slices.Clone(s.Frames), 90, 91, 92)[:len(s.Frames)]
	s.Region = append(slices.Clone(s.Region), rects(90, 91, 92)...)[:len(s.Region)]
	s.Order = append(slices.Clone(s.Order), 90, 91, 92)[:len(s.Order)]
	s.Places = append(slices.Clone(s.Places), of(90, 0, 0), of(91, 0, 0), of(92, 0, 0))[:len(s.Places)]
	return s
}

// whole is the state with the spare room of its lists told too, in new memory.
func whole(s api.State) api.State {
	s.Damage = slices.Clone(s.Damage[:cap(s.Damage)])
	s.Frames = slices.Clone(s.Frames[:cap(s.Frames)])
	s.Region = slices.Clone(s.Region[:cap(s.Region)])
	s.Order = slices.Clone(s.Order[:cap(s.Order)])
	s.Places = slices.Clone(s.Places[:cap(s.Places)])
	return s
}

// scribble writes over a list, its spare room too.
func scribble[T any](l []T, v T) {
	l = l[:cap(l)]
	for i := range l {
		l[i] = v
	}
}

// scribbleAll writes over all lists of a state.
func scribbleAll(s api.State) {
	scribble(s.Damage, api.Rect{X: 77})
	scribble(s.Frames, 77)
	scribble(s.Region, api.Rect{X: 77})
	scribble(s.Order, 77)
	scribble(s.Places, of(77, 77, 77))
}

// R3: what is handed in is as it was, spare room too, whatever is done with what was answered; what was answered is as it was, whatever is done with what was handed in.
func TestMemory(t *testing.T) {
	empty, bare := roomy(api.State{}), full(5)
	bare.Attach, bare.Input, bare.Ordered = false, false, false
	for i, x := range [][2]api.State{{full(2), full(3)}, {full(2), bare}, {full(2), empty}, {empty, full(2)}, {bare, empty}, {empty, empty}} {
		for j, call := range []func(a, b api.State) api.State{state.Merge, state.Apply} {
			a, b := roomy(x[0]), roomy(x[1])
			wasA, wasB := whole(a), whole(b)
			got, again := call(a, b), call(a, b)
			keep := whole(again)
			scribbleAll(got)
			if !like(whole(a), wasA) || !like(whole(b), wasB) || !like(whole(again), keep) {
				t.Fatal(i, j, "turned by what is done with an answer")
			}
			scribbleAll(a)
			scribbleAll(b)
			if !like(whole(again), keep) {
				t.Fatal(i, j, "an answer is turned by what is done with what was handed in")
			}
		}
	}
}

// R3: one state handed in twice is as two of them, and lists of one answer share nothing.
func TestMemoryOne(t *testing.T) {
	s := full(2)
	s.Damage, s.Frames = s.Region, s.Order
	got := state.Merge(s, s)
	if !like(got, merged(s, s)) {
		t.Error(got)
	}
	got = state.Merge(s, api.State{})
	scribble(got.Damage, api.Rect{X: 77})
	scribble(got.Frames, 77)
	if !slices.Equal(got.Region, rects(4)) || !slices.Equal(got.Order, []int{2, 0}) || !slices.Equal(s.Order, got.Order) {
		t.Error(got, s)
	}
}

// R3: Put answers new memory, be the child in the list or not.
func TestMemoryPut(t *testing.T) {
	for _, id := range []int{1, 2, 3} {
		room := places{of(1, 1, 1), of(2, 2, 2), of(8, 8, 8), of(9, 9, 9)}
		was := slices.Clone(room)
		got := state.Put(room[:2], of(id, 5, 5))
		again := state.Put(room[:2], of(id, 5, 5))
		keep := slices.Clone(again)
		scribble(got, of(77, 77, 77))
		if !slices.Equal(room, was) || !slices.Equal(again, keep) {
			t.Error(id, room, again)
		}
		scribble(room, of(66, 66, 66))
		if !slices.Equal(again, keep) {
			t.Error(id, again)
		}
	}
}

// P15.2, R1: long lists are taken too.
func TestLong(t *testing.T) {
	var a, b api.State
	for i := range 3000 {
		a.Places, b.Places = append(a.Places, of(i, 0, 0)), append(b.Places, of(i+1500, 1, 1))
		a.Frames, b.Frames = append(a.Frames, i), append(b.Frames, i)
	}
	got := state.Apply(api.State{}, state.Merge(a, b))
	if len(got.Places) != 4500 || len(got.Frames) != 6000 {
		t.Fatal(len(got.Places), len(got.Frames))
	}
	for i, c := range got.Places {
		if want := min(1, i/1500); c != of(i, want, want) {
			t.Fatal(i, c)
		}
	}
}
