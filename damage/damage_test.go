package damage_test

import (
	"math"
	"slices"
	"testing"

	"tableau/api"
	"tableau/damage"
	"tableau/region"
)

const edge = 1 << 24

type list = []api.Rect

// of is a rectangle.
func of(x, y, w, h int) api.Rect { return api.Rect{X: x, Y: y, W: w, H: h} }

// like tells whether a list is just what it is to be, and, if it is to be nothing, nil.
func like(got, want list) bool {
	return slices.Equal(got, want) && (got == nil) == (len(want) == 0)
}

// side is how many points a board has, both ways; its first one is at -off.
const side, off = 24, 4

// board is which points of a small square are in.
type board [side][side]bool

// put adds a rectangle's points, those beyond the board aside.
func (b *board) put(r api.Rect) {
	for y := range side {
		for x := range side {
			dx, dy := x-off-r.X, y-off-r.Y
			if dx >= 0 && dy >= 0 && dx < r.W && dy < r.H {
				b[y][x] = true
			}
		}
	}
}

// line are the rectangles of one line of points, of the height 1.
func (b *board) line(y int) list {
	var l list
	for x := range side {
		if !b[y][x] {
			continue
		}
		if x > 0 && b[y][x-1] {
			l[len(l)-1].W++
		} else {
			l = append(l, of(x-off, y-off, 1, 1))
		}
	}
	return l
}

// region is the board's points, in bands.
func (b *board) region() list {
	var l, band list
	for y := range side {
		now := b.line(y)
		if y > 0 && b[y] == b[y-1] {
			for i := range band {
				l[len(l)-len(band)+i].H++
			}
			continue
		}
		band = now
		l = append(l, now...)
	}
	return l
}

// fill makes the board the least rectangle with all its points.
func (b *board) fill() {
	left, top, right, bottom := side, side, 0, 0
	for y := range side {
		for x := range side {
			if b[y][x] {
				left, right = min(left, x), max(right, x)
				top, bottom = min(top, y), max(bottom, y)
			}
		}
	}
	for y := top; y <= bottom; y++ {
		for x := left; x <= right; x++ {
			b[y][x] = true
		}
	}
}

// painted is the board after all of a list, put on it as the document says, and how often it had to be filled.
func painted(l list) (board, int) {
	var b board
	n := 0
	for _, r := range l {
		b.put(r)
		if len(b.region()) > 40 {
			b.fill()
			n++
		}
	}
	return b, n
}

// dice are numbers that look like any, the same ones at each run.
type dice uint32

// roll is from 0 to just ahead of n.
func (d *dice) roll(n int) int {
	*d = *d*1664525 + 1013904223
	return int(*d>>8) % n
}

// rect is a rectangle on the board, of sides up to most; one in some has no points.
func (d *dice) rect(most int) api.Rect {
	return of(d.roll(side-most)-off, d.roll(side-most)-off, d.roll(most+1), d.roll(most+1))
}

// rects are so many of them.
func (d *dice) rects(n, most int) list {
	var l list
	for range n {
		l = append(l, d.rect(most))
	}
	return l
}

// comb is n rectangles in one band, one point wide, one point apart.
func comb(n int) list {
	var l list
	for i := range n {
		l = append(l, of(2*i, 0, 1, 1))
	}
	return l
}

// ladder is n rectangles one below the other, one point apart.
func ladder(n int) list {
	var l list
	for i := range n {
		l = append(l, of(0, 2*i, 1, 1))
	}
	return l
}

// P9.1: the document's example, and plain ones.
func TestAdd(t *testing.T) {
	l := list{of(5, 5, 2, 2), of(0, 0, 2, 2)}
	for i, x := range []struct {
		l    list
		r    api.Rect
		want list
	}{
		{nil, of(0, 0, 2, 2), list{of(0, 0, 2, 2)}},
		{list{}, of(0, 0, 2, 2), list{of(0, 0, 2, 2)}},
		{nil, of(0, 0, 0, 2), nil},
		{nil, of(0, 0, 2, -1), nil},
		{list{of(3, 3, 0, 0)}, of(0, 0, 0, 0), nil},
		{l, of(0, 0, 0, 0), list{of(0, 0, 2, 2), of(5, 5, 2, 2)}},
		{l, of(0, 0, 1, 1), list{of(0, 0, 2, 2), of(5, 5, 2, 2)}},
		{l, of(2, 0, 1, 2), list{of(0, 0, 3, 2), of(5, 5, 2, 2)}},
		{l, of(1, 1, 2, 2), list{of(0, 0, 2, 1), of(0, 1, 3, 1), of(1, 2, 2, 1), of(5, 5, 2, 2)}},
		{l, of(0, 0, 9, 9), list{of(0, 0, 9, 9)}},
		// what is beyond the edges is none
		{nil, of(edge, 0, 1, 1), nil},
		{nil, of(edge-1, 0, 9, 1), list{of(edge-1, 0, 1, 1)}},
		{nil, of(-edge-4, -edge-4, 5, 6), list{of(-edge, -edge, 1, 2)}},
		{nil, of(math.MinInt, math.MinInt, math.MaxInt, math.MaxInt), list{of(-edge, -edge, edge-1, edge-1)}},
		{nil, of(math.MinInt, math.MinInt, 9, 9), nil},
		{nil, of(math.MaxInt, math.MaxInt, math.MaxInt, math.MaxInt), nil},
		{nil, of(0, -edge-1, math.MaxInt, math.MaxInt), list{of(0, -edge, edge, 2*edge)}},
		{list{of(-edge, 0, 1, 1)}, of(edge-1, 0, 1, 1), list{of(-edge, 0, 1, 1), of(edge-1, 0, 1, 1)}},
	} {
		if got := damage.Add(x.l, x.r); !like(got, x.want) {
			t.Errorf("%d: %v, %v: %v", i, x.l, x.r, got)
		}
	}
}

// P9.1: MaxRects rectangles may be, one more is a cover.
func TestMany(t *testing.T) {
	for i, x := range []struct {
		l    list
		r    api.Rect
		want list
	}{
		{comb(39), of(78, 0, 1, 1), comb(40)},
		{comb(40), of(80, 0, 1, 1), list{of(0, 0, 81, 1)}},
		{comb(40), of(0, 0, 0, 0), comb(40)},
		{comb(40), of(-3, -5, 1, 1), list{of(-3, -5, 82, 6)}},
		{comb(40), of(-edge, 7, 1, 1), list{of(-edge, 0, edge+79, 8)}},
		{ladder(39), of(0, 78, 1, 1), ladder(40)},
		{ladder(40), of(0, 80, 1, 1), list{of(0, 0, 1, 81)}},
		// one more, but fewer in all
		{comb(40), of(1, 0, 1, 1), append(list{of(0, 0, 3, 1)}, comb(40)[2:]...)},
		{comb(40), of(0, 0, 79, 1), list{of(0, 0, 79, 1)}},
		// a band more
		{comb(20), of(0, 1, 1, 1), append(comb(20), of(0, 1, 1, 1))},
	} {
		if got := damage.Add(x.l, x.r); !like(got, x.want) {
			t.Errorf("%d: %v", i, got)
		}
	}
	if got := damage.Flat(comb(40)); !like(got, comb(40)) {
		t.Error(got)
	}
	if got := damage.Flat(comb(41)); !like(got, list{of(0, 0, 81, 1)}) {
		t.Error(got)
	}
}

// bars are n rectangles in one band, one point wide, one point apart, of a height.
func bars(n, h int) list {
	l := comb(n)
	for i := range l {
		l[i].H = h
	}
	return l
}

// P9.1: how many rectangles there are is asked of the union: one that lies beside a band parts it.
func TestParted(t *testing.T) {
	want := append(bars(13, 4), of(-2, 4, 1, 1))
	for _, r := range bars(13, 1) {
		want = append(want, of(r.X, 4, 1, 1))
	}
	for _, r := range bars(13, 4) {
		want = append(want, of(r.X, 5, 1, 4))
	}
	if got := damage.Add(bars(13, 9), of(-2, 4, 1, 1)); !like(got, want) || len(got) != 40 {
		t.Error(got)
	}
	if got := damage.Add(bars(14, 9), of(-2, 4, 1, 1)); !like(got, list{of(-2, 0, 29, 9)}) {
		t.Error(got)
	}
	if got := damage.Add(bars(20, 9), of(-2, 4, 1, 5)); !like(got, list{of(-2, 0, 41, 9)}) {
		t.Error(got)
	}
}

// P9.1: what is added last is added to what all the others are by then, so that the order tells.
func TestOrder(t *testing.T) {
	far := of(200, 0, 1, 1)
	if got := damage.Flat(append(comb(41), far)); !like(got, list{of(0, 0, 81, 1), far}) {
		t.Error(got)
	}
	if got := damage.Flat(append(list{far}, comb(40)...)); !like(got, list{of(0, 0, 201, 1)}) {
		t.Error(got)
	}
	if got := damage.Flat(append(comb(41), comb(41)...)); !like(got, list{of(0, 0, 81, 1)}) {
		t.Error(got)
	}
	if got := damage.Flat(append(comb(40), of(0, 0, 79, 1), of(81, 0, 1, 1))); !like(got, list{of(0, 0, 79, 1), of(81, 0, 1, 1)}) {
		t.Error(got)
	}
	// empty ones and far ones, in between, are nothing
	l := list{of(9, 9, 0, 1)}
	for _, r := range comb(40) {
		l = append(l, r, of(r.X, -7, 1, -1), of(edge, r.X, 5, 5))
	}
	if got := damage.Flat(l); !like(got, comb(40)) {
		t.Error(got)
	}
	// so are those that were there
	if got := damage.Flat(append(comb(40), comb(40)...)); !like(got, comb(40)) {
		t.Error(got)
	}
}

// P9.1: any rectangles are a list, wrong ones too.
func TestFlat(t *testing.T) {
	for i, x := range []struct{ l, want list }{
		{nil, nil},
		{list{}, nil},
		{list{{}}, nil},
		{list{of(1, 1, 0, 0), of(2, 2, -1, 4), of(2, 2, 4, math.MinInt)}, nil},
		{list{of(5, 5, 2, 2), of(0, 0, 0, 9), of(0, 0, 2, 2), of(2, 0, 2, 2)}, list{of(0, 0, 4, 2), of(5, 5, 2, 2)}},
		{list{of(0, 2, 1, 1), of(0, 1, 1, 1), of(0, 0, 1, 1)}, list{of(0, 0, 1, 3)}},
		{list{of(0, 0, 3, 3), of(0, 0, 3, 3)}, list{of(0, 0, 3, 3)}},
		{list{of(0, 0, 3, 3), of(1, 1, 1, 1)}, list{of(0, 0, 3, 3)}},
		{list{of(edge-1, edge-1, 1, 1), of(-edge, -edge, 1, 1)}, list{of(-edge, -edge, 1, 1), of(edge-1, edge-1, 1, 1)}},
		{list{of(edge, 0, 9, 9), of(0, edge, 9, 9), of(-edge-9, 0, 9, 9), of(0, -edge-9, 9, 9)}, nil},
		{list{of(-edge-9, 0, math.MaxInt, 1), of(0, -edge-9, 1, math.MaxInt)}, list{of(0, -edge, 1, edge), of(-edge, 0, 2*edge, 1), of(0, 1, 1, edge-1)}},
		{list{of(math.MinInt, 0, math.MaxInt, 1), of(math.MaxInt, 0, math.MaxInt, 1)}, list{of(-edge, 0, edge-1, 1)}},
	} {
		if got := damage.Flat(x.l); !like(got, x.want) {
			t.Errorf("%d: %v: %v", i, x.l, got)
		}
	}
}

// P9.1: what is within a rectangle, its own edges told.
func TestClip(t *testing.T) {
	l := list{of(5, 5, 2, 2), of(0, 0, 2, 2), of(2, 0, 2, 2)}
	for i, x := range []struct {
		l    list
		r    api.Rect
		want list
	}{
		{nil, of(0, 0, 9, 9), nil},
		{l, of(0, 0, 0, 0), nil},
		{l, of(0, 0, 9, -1), nil},
		{l, of(0, 2, 5, 9), nil},
		{l, of(4, 2, 1, 3), nil},
		{l, of(1, 1, 5, 5), list{of(1, 1, 3, 1), of(5, 5, 1, 1)}},
		{l, of(-9, -9, 99, 99), list{of(0, 0, 4, 2), of(5, 5, 2, 2)}},
		{l, of(-edge-9, -edge-9, math.MaxInt, math.MaxInt), list{of(0, 0, 4, 2), of(5, 5, 2, 2)}},
		{l, of(math.MinInt, math.MinInt, math.MaxInt, math.MaxInt), nil},
		{list{of(edge-2, 0, 9, 1)}, of(edge-1, -5, 9, 9), list{of(edge-1, 0, 1, 1)}},
		// bands that differ beside the rectangle alone are one within
		{list{of(0, 0, 2, 1), of(0, 1, 3, 1)}, of(0, 0, 2, 2), list{of(0, 0, 2, 2)}},
		// the cover of too many is cut, not those that it was made of
		{comb(41), of(1, 0, 1, 1), list{of(1, 0, 1, 1)}},
		{comb(40), of(1, 0, 1, 1), nil},
		{comb(40), of(0, 0, 99, 9), comb(40)},
	} {
		if got := damage.Clip(x.l, x.r); !like(got, x.want) {
			t.Errorf("%d: %v, %v: %v", i, x.l, x.r, got)
		}
	}
}

// P9.1: moved, nil of an x, y that is too great, and cut at the edges.
func TestMove(t *testing.T) {
	l := list{of(5, 5, 2, 2), of(0, 0, 2, 2), of(2, 0, 2, 2)}
	for i, x := range []struct {
		l    list
		x, y int
		want list
	}{
		{nil, 1, 1, nil},
		{l, 0, 0, list{of(0, 0, 4, 2), of(5, 5, 2, 2)}},
		{l, 1, -1, list{of(1, -1, 4, 2), of(6, 4, 2, 2)}},
		{l, edge, 0, nil},
		{l, edge - 1, 0, list{of(edge-1, 0, 1, 2)}},
		{l, edge - 6, edge - 6, list{of(edge-6, edge-6, 4, 2), of(edge-1, edge-1, 1, 1)}},
		{l, -edge, -edge, list{of(-edge, -edge, 4, 2), of(5-edge, 5-edge, 2, 2)}},
		{l, edge + 1, 0, nil},
		{l, 0, edge + 1, nil},
		{l, -edge - 1, 0, nil},
		{l, 0, -edge - 1, nil},
		{l, math.MaxInt, math.MinInt, nil},
		{list{of(-edge, 0, 1, 1)}, edge, 0, list{of(0, 0, 1, 1)}},
		{list{of(-edge, 0, 1, 1)}, edge + 1, 0, nil},
		{list{of(edge-1, 0, 1, 1)}, -edge - 1, 0, nil},
		// what is beyond the edges does not come in again
		{list{of(edge, 0, 5, 5)}, -9, 0, nil},
		{list{of(edge-1, 0, 5, 5)}, -9, 0, list{of(edge-10, 0, 1, 5)}},
		// the cover of too many is moved
		{comb(41), 3, 4, list{of(3, 4, 81, 1)}},
		{comb(40), edge - 5, 0, list{of(edge-5, 0, 1, 1), of(edge-3, 0, 1, 1), of(edge-1, 0, 1, 1)}},
	} {
		if got := damage.Move(x.l, x.x, x.y); !like(got, x.want) {
			t.Errorf("%d: %v, %d, %d: %v", i, x.l, x.x, x.y, got)
		}
	}
}

// P9.1: lists of any kind, held against a board of points that is filled where it has too many rectangles.
func TestBoard(t *testing.T) {
	d := dice(9)
	filled, whole := 0, 0
	for i := range 400 {
		l := d.rects(d.roll(120), 1+d.roll(5))
		b, n := painted(l)
		want := b.region()
		filled += min(n, 1)
		if n == 0 && len(want) > 20 {
			whole++
		}
		if got := damage.Flat(l); !like(got, want) {
			t.Fatalf("%d: %v: %v", i, l, got)
		}
		r := d.rect(9)
		more, _ := painted(append(slices.Clone(l), r))
		if got := damage.Add(l, r); !like(got, more.region()) {
			t.Fatalf("%d: %v, %v: %v", i, l, r, got)
		}
		if got := damage.Add(damage.Flat(l), r); !like(got, more.region()) {
			t.Fatalf("%d: %v, %v: %v", i, l, r, got)
		}
		if got := damage.Clip(l, r); !like(got, region.Intersect(want, region.Of(r))) {
			t.Fatalf("%d: %v, %v: %v", i, l, r, got)
		}
		if got := damage.Move(l, r.X, r.H); !like(got, region.Shift(want, r.X, r.H)) {
			t.Fatalf("%d: %v, %v: %v", i, l, r, got)
		}
	}
	if filled < 50 || whole < 50 {
		t.Error("the lists are too plain", filled, whole)
	}
}

// P9.2: each point of each rectangle that was added is there; each answer is a region of MaxRects rectangles at most.
func TestNothingLost(t *testing.T) {
	d := dice(92)
	for range 60 {
		all := d.rects(100, 1+d.roll(4))
		var step list
		for i, r := range all {
			step = damage.Add(step, r)
			if !region.Check(step) || len(step) > api.MaxRects {
				t.Fatal(step)
			}
			for _, old := range all[:i+1] {
				if lost := region.Subtract(region.Of(old), step); lost != nil {
					t.Fatal(old, lost)
				}
			}
		}
		if got := damage.Flat(all); !like(got, step) {
			t.Fatal(got, step)
		}
	}
}

// R3: lists that are handed in are as they were, their spare room too; what is answered is new memory.
func TestMemory(t *testing.T) {
	for _, l := range []list{comb(3), comb(40), comb(41), {of(4, 4, 2, 2), of(0, 0, 9, 1)}, {of(1, 1, 3, 3)}} {
		room := append(slices.Clone(l), of(7, 7, 7, 7), of(8, 8, 8, 8))
		was := slices.Clone(room)
		in := room[:len(l)]
		for i, call := range []func() list{
			func() list { return damage.Flat(in) },
			func() list { return damage.Add(in, of(3, 0, 2, 2)) },
			func() list { return damage.Add(in, api.Rect{}) },
			func() list { return damage.Clip(in, of(-9, -9, 200, 200)) },
			func() list { return damage.Move(in, 0, 0) },
		} {
			got, again := call(), call()
			keep := slices.Clone(again)
			scribble(got)
			if !slices.Equal(room, was) || !slices.Equal(again, keep) || !slices.Equal(call(), keep) {
				t.Fatal(i, l)
			}
		}
	}
}

// scribble writes over a list, its spare room too.
func scribble(l list) {
	l = l[:cap(l)]
	for i := range l {
		l[i] = of(-1, -1, -1, -1)
	}
}
