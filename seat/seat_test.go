package seat_test

import (
	"math"
	"math/big"
	"math/rand"
	"reflect"
	"slices"
	"testing"

	"tableau/api"
	"tableau/seat"
)

const edge = 1 << 24

// far are numbers at the ends of what a number may be, and about the edges.
var far = []int{math.MinInt, math.MinInt + 1, -1 << 32, -edge - 1, -edge, -edge + 1, -1, 0, 1, edge - 1, edge, edge + 1, 1 << 32, math.MaxInt - 1, math.MaxInt}

// full is a surface that takes all that is on it.
func full(surface, x, y, w, h int) seat.Hit {
	return seat.Hit{Surface: surface, X: x, Y: y, W: w, H: h, All: true}
}

// part is a surface that takes what is in these rectangles.
func part(surface, x, y, w, h int, l ...api.Rect) seat.Hit {
	return seat.Hit{Surface: surface, X: x, Y: y, W: w, H: h, Region: l}
}

func enter(surface, x, y int) seat.Note { return seat.Note{Kind: 1, Surface: surface, X: x, Y: y} }
func leave(surface int) seat.Note       { return seat.Note{Kind: 2, Surface: surface} }
func motion(surface, x, y int) seat.Note {
	return seat.Note{Kind: 3, Surface: surface, X: x, Y: y}
}

// told wants these notes.
func told(t *testing.T, got []seat.Note, want ...seat.Note) {
	t.Helper()
	if !slices.Equal(got, want) {
		t.Fatalf("told %v, not %v", got, want)
	}
}

// focus wants these to have the pointer, and the keys.
func focus(t *testing.T, s *seat.Seat, pointer, keys int) {
	t.Helper()
	if p, k := s.Focus(); p != pointer || k != keys {
		t.Fatalf("focus: %d, %d, not %d, %d", p, k, pointer, keys)
	}
}

// place wants the pointer there.
func place(t *testing.T, s *seat.Seat, x, y int) {
	t.Helper()
	if a, b := s.Place(); a != x || b != y {
		t.Fatalf("place: %d, %d, not %d, %d", a, b, x, y)
	}
}

// at wants this surface, and this point in it.
func at(t *testing.T, l []seat.Hit, x, y, surface, inX, inY int) {
	t.Helper()
	if a, b, c := seat.At(l, x, y); a != surface || b != inX || c != inY {
		t.Fatalf("at %d, %d of %v: %d, %d, %d, not %d, %d, %d", x, y, l, a, b, c, surface, inX, inY)
	}
}

// The kinds' numbers are those of the chapter.
func TestKinds(t *testing.T) {
	if seat.Enter != 1 || seat.Leave != 2 || seat.Motion != 3 {
		t.Error(seat.Enter, seat.Leave, seat.Motion)
	}
}

// P20.1: a surface has the points from its place to just ahead of its end; none, if a side is below 1.
func TestAtEdges(t *testing.T) {
	l := []seat.Hit{full(7, 3, -2, 4, 5)}
	for x := 0; x < 10; x++ {
		for y := -5; y < 6; y++ {
			if x >= 3 && x < 7 && y >= -2 && y < 3 {
				at(t, l, x, y, 7, x-3, y+2)
			} else {
				at(t, l, x, y, 0, 0, 0)
			}
		}
	}
	for _, size := range []int{0, -1, -4, math.MinInt} {
		at(t, []seat.Hit{full(7, 0, 0, size, 4)}, 0, 0, 0, 0, 0)
		at(t, []seat.Hit{full(7, 0, 0, 4, size)}, 0, 0, 0, 0, 0)
		at(t, []seat.Hit{full(7, 0, 0, size, size)}, -1, -1, 0, 0, 0)
	}
	at(t, nil, 0, 0, 0, 0, 0)
	at(t, []seat.Hit{}, 1, 1, 0, 0, 0)
}

// P20.1: the last one is the uppermost one; who does not take the point lets it through.
func TestAtOrder(t *testing.T) {
	low, high := full(1, 0, 0, 10, 10), full(2, 5, 5, 10, 10)
	at(t, []seat.Hit{low, high}, 6, 7, 2, 1, 2)
	at(t, []seat.Hit{high, low}, 6, 7, 1, 6, 7)
	at(t, []seat.Hit{low, high}, 4, 7, 1, 4, 7)
	at(t, []seat.Hit{high, low}, 12, 11, 2, 7, 6)
	deaf := part(3, 0, 0, 20, 20)
	at(t, []seat.Hit{low, high, deaf}, 6, 7, 2, 1, 2)
	at(t, []seat.Hit{deaf}, 6, 7, 0, 0, 0)
	hole := part(4, 0, 0, 20, 20, api.Rect{X: 1, Y: 1, W: 2, H: 2})
	at(t, []seat.Hit{low, hole}, 2, 2, 4, 2, 2)
	at(t, []seat.Hit{low, hole}, 3, 2, 1, 3, 2)
	at(t, []seat.Hit{low, hole}, 0, 2, 1, 0, 2)
	same := []seat.Hit{full(5, 0, 0, 9, 9), full(5, 2, 1, 9, 9)}
	at(t, same, 4, 4, 5, 2, 3)
	at(t, same, 1, 4, 5, 1, 4)
}

// P20.1: Region's points are counted from the surface's place; what is beyond the surface is not taken; All is enough.
func TestAtRegion(t *testing.T) {
	h := part(1, 10, 20, 5, 5, api.Rect{X: 0, Y: 0, W: 1, H: 1}, api.Rect{X: 3, Y: 3, W: 50, H: 50}, api.Rect{X: -5, Y: 2, W: 6, H: 1})
	for x := 0; x < 70; x++ {
		for y := 0; y < 80; y++ {
			inX, inY := x-10, y-20
			in := inX >= 0 && inX < 5 && inY >= 0 && inY < 5
			if in && (inX == 0 && inY == 0 || inX >= 3 && inY >= 3 || inX == 0 && inY == 2) {
				at(t, []seat.Hit{h}, x, y, 1, inX, inY)
			} else {
				at(t, []seat.Hit{h}, x, y, 0, 0, 0)
			}
		}
	}
	h.All = true
	at(t, []seat.Hit{h}, 12, 22, 1, 2, 2)
	at(t, []seat.Hit{h}, 15, 22, 0, 0, 0)
}

// P20.1: one rectangle with the point is enough, though the list is no region: out of order, one in the other, empty ones, beyond the edges.
func TestAtAnyRectangles(t *testing.T) {
	for _, l := range [][]api.Rect{
		{{X: 3, Y: 3, W: 2, H: 2}, {X: 0, Y: 0, W: 2, H: 2}},
		{{X: 0, Y: 0, W: 9, H: 9}, {X: 1, Y: 1, W: 2, H: 2}},
		{{X: 0, Y: 0, W: 0, H: 2}, {X: 1, Y: 1, W: 1, H: 1}},
		{{X: 1, Y: 1, W: 1, H: 1}, {X: 1, Y: 1, W: -1, H: 1}},
		{{X: -2 * edge, Y: -2 * edge, W: 4 * edge, H: 4 * edge}},
		{{X: math.MinInt, Y: 1, W: math.MaxInt, H: 1}, {X: 1, Y: 0, W: math.MaxInt, H: math.MaxInt}},
	} {
		at(t, []seat.Hit{part(6, 1, 1, 8, 8, l...)}, 2, 2, 6, 1, 1)
	}
	for _, r := range []api.Rect{{X: 1, Y: 1, W: 0, H: 1}, {X: 1, Y: 1, W: 1, H: 0}, {X: 2, Y: 2, W: -2, H: -2}, {X: 2, Y: 1, W: 1, H: 1}, {X: 1, Y: 0, W: 1, H: 1}, {X: math.MinInt, Y: 1, W: math.MaxInt, H: 1}} {
		at(t, []seat.Hit{part(6, 1, 1, 8, 8, r)}, 2, 2, 0, 0, 0)
	}
}

// P20.1: a hit of the surface 0 takes the point too, and what is below it has none.
func TestAtZero(t *testing.T) {
	l := []seat.Hit{full(1, 0, 0, 9, 9), full(0, 2, 3, 2, 2)}
	at(t, l, 3, 4, 0, 1, 1)
	at(t, l, 1, 4, 1, 1, 4)
	at(t, []seat.Hit{full(-8, 2, 3, 2, 2)}, 3, 4, -8, 1, 1)
}

// inside tells whether n is from at to just ahead of at + size, by numbers that have no end.
func inside(at, size, n int) bool {
	end := new(big.Int).Add(big.NewInt(int64(at)), big.NewInt(int64(size)))
	return at <= n && big.NewInt(int64(n)).Cmp(end) < 0
}

// P20.1, R5: numbers may be any, and no sum goes round.
func TestAtFar(t *testing.T) {
	for _, from := range far {
		for _, size := range far {
			for _, n := range far {
				across, down := []seat.Hit{full(3, from, 0, size, 1)}, []seat.Hit{full(3, 0, from, 1, size)}
				if size > 0 && inside(from, size, n) {
					at(t, across, n, 0, 3, n-from, 0)
					at(t, down, 0, n, 3, 0, n-from)
				} else {
					at(t, across, n, 0, 0, 0, 0)
					at(t, down, 0, n, 0, 0, 0)
				}
			}
		}
	}
}

// P20.2: a new seat is at 0, 0, and nothing has the focus.
func TestNew(t *testing.T) {
	s := seat.New()
	place(t, s, 0, 0)
	focus(t, s, 0, 0)
	told(t, s.Look(nil))
	told(t, s.Keys(0))
	s.Gone(0)
	s.Gone(1)
	focus(t, s, 0, 0)
	told(t, seat.New().Look([]seat.Hit{full(4, -1, -2, 3, 3)}), enter(4, 1, 2))
}

// two are two surfaces side by side, and one more above the end of the second one.
func two() []seat.Hit {
	return []seat.Hit{full(1, 0, 0, 10, 10), full(2, 10, 0, 10, 10), part(3, 15, 5, 10, 10, api.Rect{W: 2, H: 2})}
}

// P20.2: the chapter's example, and moves from one to another one and beyond all.
func TestMove(t *testing.T) {
	s := seat.New()
	told(t, s.Move(30, 30, two()))
	told(t, s.Move(1, 2, two()), enter(1, 1, 2))
	told(t, s.Move(1, 2, two()), motion(1, 1, 2))
	told(t, s.Move(9, 9, two()), motion(1, 9, 9))
	told(t, s.Move(10, 9, two()), leave(1), enter(2, 0, 9))
	focus(t, s, 2, 0)
	told(t, s.Move(16, 6, two()), leave(2), enter(3, 1, 1))
	told(t, s.Move(17, 6, two()), leave(3), enter(2, 7, 6))
	told(t, s.Move(24, 14, two()), leave(2))
	focus(t, s, 0, 0)
	told(t, s.Move(25, 14, two()))
	place(t, s, 25, 14)
	told(t, s.Move(0, 0, two()), enter(1, 0, 0))
	told(t, s.Move(0, 0, two()), motion(1, 0, 0))
	told(t, s.Move(0, 0, []seat.Hit{full(1, -3, -4, 9, 9)}), motion(1, 3, 4))
	told(t, s.Move(0, 0, nil), leave(1))
	told(t, s.Move(0, 0, nil))
}

// P20.2: 0 is nobody, where a hit has it too: it is told nothing.
func TestMoveZero(t *testing.T) {
	zero := []seat.Hit{full(1, 0, 0, 9, 9), full(0, 2, 2, 5, 5)}
	s := seat.New()
	told(t, s.Move(3, 3, zero))
	told(t, s.Move(4, 3, zero))
	told(t, s.Move(1, 1, zero), enter(1, 1, 1))
	told(t, s.Move(3, 3, zero), leave(1))
	focus(t, s, 0, 0)
	place(t, s, 3, 3)
}

// P20.2: the pointer is cut to the edges, and looked for there.
func TestMoveFar(t *testing.T) {
	all := []seat.Hit{full(5, -edge, -edge, 2*edge+1, 2*edge+1)}
	for _, x := range far {
		for _, y := range far {
			s := seat.New()
			cutX, cutY := min(max(x, -edge), edge), min(max(y, -edge), edge)
			told(t, s.Move(x, y, all), enter(5, cutX+edge, cutY+edge))
			place(t, s, cutX, cutY)
			told(t, s.Move(y, x, all), motion(5, cutY+edge, cutX+edge))
			place(t, s, cutY, cutX)
		}
	}
	s := seat.New()
	told(t, s.Move(edge+1, 0, []seat.Hit{full(5, edge+1, 0, 9, 9)}))
	told(t, s.Move(edge+1, 0, []seat.Hit{full(5, edge, 0, 1, 1)}), enter(5, 0, 0))
	told(t, s.Move(-edge-1, 0, []seat.Hit{full(5, -edge-9, 0, 9, 9)}), leave(5))
}

// P20.2: to look is to move to where the pointer is, but nobody is told of a motion.
func TestLook(t *testing.T) {
	s := seat.New()
	s.Move(12, 3, nil)
	told(t, s.Look(two()), enter(2, 2, 3))
	told(t, s.Look(two()))
	told(t, s.Look([]seat.Hit{full(2, 0, 0, 20, 20)}))
	focus(t, s, 2, 0)
	told(t, s.Look([]seat.Hit{full(2, 0, 0, 20, 20), full(9, 11, 1, 5, 5)}), leave(2), enter(9, 1, 2))
	told(t, s.Look(nil), leave(9))
	told(t, s.Look(nil))
	focus(t, s, 0, 0)
	place(t, s, 12, 3)
	told(t, s.Look([]seat.Hit{full(9, 11, 1, 5, 5)}), enter(9, 1, 2))
	told(t, s.Move(12, 3, []seat.Hit{full(9, 11, 1, 5, 5)}), motion(9, 1, 2))
}

// P20.2: the keys go to one at a time, wherever the pointer is; again to the same one is no note.
func TestKeys(t *testing.T) {
	s := seat.New()
	told(t, s.Move(4, 5, two()), enter(1, 4, 5))
	told(t, s.Keys(7), enter(7, 0, 0))
	told(t, s.Keys(7))
	told(t, s.Keys(1), leave(7), enter(1, 0, 0))
	focus(t, s, 1, 1)
	told(t, s.Keys(0), leave(1))
	told(t, s.Keys(0))
	focus(t, s, 1, 0)
	told(t, s.Keys(-3), enter(-3, 0, 0))
	told(t, s.Move(5, 5, two()), motion(1, 5, 5))
	focus(t, s, 1, -3)
	told(t, s.Move(11, 5, two()), leave(1), enter(2, 1, 5))
	focus(t, s, 2, -3)
	place(t, s, 11, 5)
}

// P20.2: who is gone has neither focus any more, and is not told; the others keep theirs; who comes back enters anew.
func TestGone(t *testing.T) {
	s := seat.New()
	s.Move(4, 5, two())
	s.Keys(1)
	for _, id := range []int{0, 2, -1, 9} {
		s.Gone(id)
		focus(t, s, 1, 1)
	}
	s.Gone(1)
	focus(t, s, 0, 0)
	place(t, s, 4, 5)
	told(t, s.Look(two()), enter(1, 4, 5))
	told(t, s.Keys(2), enter(2, 0, 0))
	s.Gone(2)
	focus(t, s, 1, 0)
	told(t, s.Keys(0))
	told(t, s.Keys(3), enter(3, 0, 0))
	s.Gone(1)
	focus(t, s, 0, 3)
	told(t, s.Move(11, 5, two()), enter(2, 1, 5))
	s.Gone(2)
	s.Gone(2)
	told(t, s.Move(40, 5, two()))
}

// P20.2, R5: a surface's number may be any.
func TestFar(t *testing.T) {
	s, last := seat.New(), 0
	for _, id := range far {
		var want []seat.Note
		if last != 0 {
			want = append(want, leave(last))
		}
		if id != 0 {
			want = append(want, enter(id, 0, 0))
		}
		told(t, s.Keys(id), want...)
		told(t, s.Move(0, 0, []seat.Hit{full(id, 0, 0, 1, 1)}), want...)
		focus(t, s, id, id)
		last = id
	}
	for _, id := range far[:len(far)-1] {
		s.Gone(id)
		focus(t, s, math.MaxInt, math.MaxInt)
	}
	s.Gone(math.MaxInt)
	focus(t, s, 0, 0)
}

// model is a seat by the document's words, with no more than who has what.
type model struct{ x, y, pointer, keys int }

// find is what is at the pointer: the last that has it, looked for from the first one on.
func (m *model) find(l []seat.Hit) (surface, x, y int) {
	for _, h := range l {
		inX, inY := m.x-h.X, m.y-h.Y
		takes := h.All
		for _, r := range h.Region {
			takes = takes || inX >= r.X && inX < r.X+r.W && inY >= r.Y && inY < r.Y+r.H
		}
		if takes && inX >= 0 && inX < h.W && inY >= 0 && inY < h.H {
			surface, x, y = h.Surface, inX, inY
		}
	}
	return
}

// look is what is told where the pointer is now.
func (m *model) look(l []seat.Hit, moved bool) []seat.Note {
	surface, x, y := m.find(l)
	if surface == m.pointer {
		if moved && surface != 0 {
			return []seat.Note{motion(surface, x, y)}
		}
		return nil
	}
	notes := change(m.pointer, enter(surface, x, y))
	m.pointer = surface
	return notes
}

// change is a leave and an enter; none of 0.
func change(from int, to seat.Note) []seat.Note {
	l := []seat.Note{leave(from), to}
	return slices.DeleteFunc(l, func(n seat.Note) bool { return n.Surface == 0 })
}

func (m *model) giveKeys(surface int) []seat.Note {
	if m.keys == surface {
		return nil
	}
	notes := change(m.keys, enter(surface, 0, 0))
	m.keys = surface
	return notes
}

// anyHits are some surfaces about the corner, some of them twice, some that are nobody's.
func anyHits(r *rand.Rand) []seat.Hit {
	var l []seat.Hit
	for range r.Intn(5) {
		h := seat.Hit{Surface: r.Intn(4), X: r.Intn(7) - 3, Y: r.Intn(7) - 3, W: r.Intn(7) - 1, H: r.Intn(7) - 1, All: r.Intn(2) == 0}
		for range r.Intn(3) {
			h.Region = append(h.Region, api.Rect{X: r.Intn(5) - 2, Y: r.Intn(5) - 2, W: r.Intn(6) - 1, H: r.Intn(6) - 1})
		}
		l = append(l, h)
	}
	return l
}

// tale holds one kind of focus to P20.3: who has entered, and has neither left nor gone.
type tale struct{ in map[int]int }

func (a *tale) hear(t *testing.T, notes []seat.Note) {
	t.Helper()
	for _, n := range notes {
		switch {
		case n.Surface == 0:
			t.Fatal("nobody is told", n)
		case n.Kind == seat.Enter && a.in[n.Surface] != 0:
			t.Fatal("entered twice:", n)
		case n.Kind != seat.Enter && a.in[n.Surface] == 0:
			t.Fatal("told outside:", n)
		case n.Kind == seat.Enter:
			a.in[n.Surface]++
		case n.Kind == seat.Leave:
			a.in[n.Surface]--
		}
	}
}

// P20.1, P20.2, P20.3: any calls, held against the model and against what follows.
func TestAny(t *testing.T) {
	r := rand.New(rand.NewSource(20))
	for range 300 {
		s, m := seat.New(), &model{}
		pointer, keys := tale{map[int]int{}}, tale{map[int]int{}}
		for range 200 {
			l, id := anyHits(r), r.Intn(4)
			switch r.Intn(5) {
			case 0, 1:
				m.x, m.y = r.Intn(11)-5, r.Intn(11)-5
				got := s.Move(m.x, m.y, l)
				told(t, got, m.look(l, true)...)
				pointer.hear(t, got)
			case 2:
				got := s.Look(l)
				told(t, got, m.look(l, false)...)
				pointer.hear(t, got)
			case 3:
				got := s.Keys(id)
				told(t, got, m.giveKeys(id)...)
				keys.hear(t, got)
			case 4:
				s.Gone(id)
				if m.pointer == id {
					m.pointer = 0
				}
				if m.keys == id {
					m.keys = 0
				}
				delete(pointer.in, id)
				delete(keys.in, id)
			}
			focus(t, s, m.pointer, m.keys)
			place(t, s, m.x, m.y)
			surface, x, y := m.find(l)
			at(t, l, m.x, m.y, surface, x, y)
		}
	}
}

// R3: lists that are handed in are neither turned nor kept.
func TestHandedIn(t *testing.T) {
	l := two()
	s := seat.New()
	seat.At(l, 16, 6)
	s.Move(16, 6, l)
	s.Look(l)
	if !reflect.DeepEqual(l, two()) {
		t.Fatal("turned:", l)
	}
	for i := range l {
		l[i].Surface, l[i].W = 99, 0
	}
	l[2].Region[0] = api.Rect{}
	focus(t, s, 3, 0)
	told(t, s.Look(two()))
	told(t, s.Move(16, 5, two()), motion(3, 1, 0))
}

// R3: what is answered is new memory, spare room too.
func TestMemory(t *testing.T) {
	s := seat.New()
	spoil := func(l []seat.Note) {
		for i := range l[:cap(l)] {
			l[:cap(l)][i] = seat.Note{Kind: 77, Surface: 77, X: 77, Y: 77}
		}
	}
	spoil(s.Move(1, 1, two()))
	first := s.Move(11, 1, two())
	second := s.Move(1, 1, two())
	spoil(second)
	told(t, first, leave(1), enter(2, 1, 1))
	spoil(first)
	told(t, s.Move(2, 1, two()), motion(1, 2, 1))
	spoil(s.Keys(4))
	keys := s.Keys(5)
	spoil(s.Keys(6))
	told(t, keys, leave(4), enter(5, 0, 0))
	spoil(s.Look(nil))
	told(t, s.Look(two()), enter(1, 2, 1))
	focus(t, s, 1, 6)
}

// R4: to ask turns nothing, and two seats have nothing in common.
func TestApart(t *testing.T) {
	a, b := seat.New(), seat.New()
	a.Move(1, 2, two())
	a.Keys(3)
	focus(t, b, 0, 0)
	place(t, b, 0, 0)
	b.Move(11, 2, two())
	b.Keys(4)
	b.Gone(1)
	b.Gone(3)
	for range 3 {
		at(t, two(), 11, 2, 2, 1, 2)
		focus(t, a, 1, 3)
		place(t, a, 1, 2)
		focus(t, b, 2, 4)
		place(t, b, 11, 2)
	}
	told(t, a.Move(1, 2, two()), motion(1, 1, 2))
	told(t, b.Move(1, 2, two()), leave(2), enter(1, 1, 2))
}
