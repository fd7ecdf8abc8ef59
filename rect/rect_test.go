package rect_test

import (
	"math"
	"math/big"
	"testing"

	"tableau/api"
	"tableau/rect"
)

const edge = 1 << 24

// of is a rectangle.
func of(x, y, w, h int) api.Rect { return api.Rect{X: x, Y: y, W: w, H: h} }

// none is the one without points that is answered.
var none api.Rect

// sides are places and sizes on one side: small ones, those about the edges, and the greatest and least there are.
func sides() []int {
	return []int{
		0, 1, 2, 5, -1, -2, -5,
		edge - 1, edge, edge + 1, -edge - 1, -edge, -edge + 1, 2*edge - 1, 2 * edge, 2*edge + 1, -2 * edge,
		math.MaxInt32, math.MinInt32, math.MaxInt - edge, math.MinInt + edge, math.MaxInt - 1, math.MaxInt, math.MinInt, math.MinInt + 1,
	}
}

// sum is at + size, of any size.
func sum(at, size int) *big.Int {
	return new(big.Int).Add(big.NewInt(int64(at)), big.NewInt(int64(size)))
}

// between tells whether n is from a to b, both of them among it.
func between(n *big.Int, a, b int) bool {
	return n.Cmp(big.NewInt(int64(a))) >= 0 && n.Cmp(big.NewInt(int64(b))) <= 0
}

// P7.1: a rectangle is empty if a side is below 1, wherever it is.
func TestEmpty(t *testing.T) {
	for _, at := range sides() {
		for _, w := range sides() {
			for _, h := range sides() {
				if got, want := rect.Empty(of(at, -(at+1), w, h)), w <= 0 || h <= 0; got != want {
					t.Errorf("(%d, %d) at %d: %v", w, h, at, got)
				}
			}
		}
	}
}

// P7.1: what may be is not empty, and begins and ends within the edges, both ways.
func TestCheck(t *testing.T) {
	for _, at := range sides() {
		for _, size := range sides() {
			end := sum(at, size)
			want := size >= 1 && between(big.NewInt(int64(at)), -edge, edge) && between(end, -edge, edge)
			for _, r := range []api.Rect{of(at, 0, size, 1), of(0, at, 1, size), of(at, at, size, size), of(at, -edge, size, 2*edge), of(-edge, at, 2*edge, size)} {
				if got := rect.Check(r); got != want {
					t.Errorf("%v: %v", r, got)
				}
			}
			for _, r := range []api.Rect{of(at, 0, size, 0), of(at, edge, size, 1), of(0, at, -1, size), of(-edge-1, at, 1, size)} {
				if rect.Check(r) {
					t.Errorf("%v may not be", r)
				}
			}
		}
	}
}

// P7.1: a point is one of a rectangle's from its place to just ahead of its end, of any rectangle; none is an empty one's.
func TestHas(t *testing.T) {
	for _, at := range sides() {
		for _, size := range sides() {
			last := new(big.Int).Sub(sum(at, size), big.NewInt(1))
			for _, n := range append(sides(), at-1, at, at+1, at+size-1, at+size) {
				want := size >= 1 && n >= at && big.NewInt(int64(n)).Cmp(last) <= 0
				if got := rect.Has(of(at, 3, size, 2), n, 4); got != want {
					t.Errorf("x %d of (%d, %d): %v", n, at, size, got)
				}
				if got := rect.Has(of(3, at, 2, size), 4, n); got != want {
					t.Errorf("y %d of (%d, %d): %v", n, at, size, got)
				}
				for _, r := range []api.Rect{of(at, 3, size, 0), of(at, 3, size, -2), of(at, 5, size, 2), of(at, 1, size, 3), of(at, 5, size, math.MinInt)} {
					if rect.Has(r, n, 4) || rect.Has(of(r.Y, r.X, r.H, r.W), 4, n) {
						t.Errorf("%d of %v", n, r)
					}
				}
			}
		}
	}
}

// small are all rectangles of a little square, empty ones too.
func small() []api.Rect {
	var l []api.Rect
	for x := -2; x < 3; x++ {
		for y := -1; y < 2; y++ {
			for w := -1; w < 4; w++ {
				for h := -1; h < 4; h++ {
					l = append(l, of(x, y, w, h))
				}
			}
		}
	}
	return l
}

// box is the least rectangle of the points for which is says yes, and how many they are, found point by point.
func box(is func(x, y int) bool) (api.Rect, int) {
	n, left, top, right, bottom := 0, 99, 99, -99, -99
	for x := -4; x < 8; x++ {
		for y := -4; y < 8; y++ {
			if is(x, y) {
				n++
				left, top, right, bottom = min(left, x), min(top, y), max(right, x), max(bottom, y)
			}
		}
	}
	if n == 0 {
		return none, 0
	}
	return of(left, top, right-left+1, bottom-top+1), n
}

// in tells of small numbers, by their sums, whether a point is a rectangle's.
func in(r api.Rect, x, y int) bool {
	return x >= r.X && x < r.X+r.W && y >= r.Y && y < r.Y+r.H
}

// P7.2: point by point, what both have, and the least that has what each has.
func TestPoints(t *testing.T) {
	for _, a := range small() {
		for _, b := range small() {
			cut, n := box(func(x, y int) bool { return in(a, x, y) && in(b, x, y) })
			if n != cut.W*cut.H {
				t.Fatal("the points of both are no rectangle")
			}
			cover, _ := box(func(x, y int) bool { return in(a, x, y) || in(b, x, y) })
			if got := rect.Cut(a, b); got != cut {
				t.Fatalf("the cut of %v and %v: %v, not %v", a, b, got, cut)
			}
			if got := rect.Cover(a, b); got != cover {
				t.Fatalf("the cover of %v and %v: %v, not %v", a, b, got, cover)
			}
		}
	}
}

// P7.2: the example, and rectangles at the edges.
func TestTwo(t *testing.T) {
	all := of(-edge, -edge, 2*edge, 2*edge)
	for _, x := range []struct{ a, b, cut, cover api.Rect }{
		{of(0, 0, 4, 4), of(2, 1, 9, 1), of(2, 1, 2, 1), of(0, 0, 11, 4)},
		{all, all, all, all},
		{all, of(-edge, 5, 1, 1), of(-edge, 5, 1, 1), all},
		{all, of(5, edge-1, 1, 1), of(5, edge-1, 1, 1), all},
		{of(-edge, -edge, 1, 1), of(edge-1, edge-1, 1, 1), none, all},
		{of(-edge, 0, edge, 1), of(0, 0, edge, 1), none, of(-edge, 0, 2*edge, 1)},
		{of(0, -edge, 1, edge+1), of(0, 0, 1, edge), of(0, 0, 1, 1), of(0, -edge, 1, 2*edge)},
	} {
		if got := rect.Cut(x.a, x.b); got != x.cut {
			t.Errorf("the cut of %v and %v: %v", x.a, x.b, got)
		}
		if got := rect.Cut(x.b, x.a); got != x.cut {
			t.Errorf("the cut of %v and %v: %v", x.b, x.a, got)
		}
		if got := rect.Cover(x.a, x.b); got != x.cover {
			t.Errorf("the cover of %v and %v: %v", x.a, x.b, got)
		}
		if got := rect.Cover(x.b, x.a); got != x.cover {
			t.Errorf("the cover of %v and %v: %v", x.b, x.a, got)
		}
	}
}

// empties are empty rectangles of any numbers.
func empties() []api.Rect {
	var l []api.Rect
	for _, at := range sides() {
		for _, size := range sides() {
			l = append(l, of(at, at, 0, size), of(1, at, size, math.MinInt), of(at, 2, min(size, 0), size))
		}
	}
	return l
}

// P7.2: an empty one, whatever its numbers are, has no points: it cuts to nothing, adds nothing, moves to nothing.
func TestEmptyOnes(t *testing.T) {
	for _, z := range empties() {
		for _, r := range []api.Rect{of(0, 0, 3, 4), of(-edge, -edge, 2*edge, 2*edge), of(edge-1, -edge, 1, 1)} {
			if got := rect.Cut(z, r); got != none {
				t.Errorf("the cut of %v and %v: %v", z, r, got)
			}
			if got := rect.Cut(r, z); got != none {
				t.Errorf("the cut of %v and %v: %v", r, z, got)
			}
			if got := rect.Cover(z, r); got != r {
				t.Errorf("the cover of %v and %v: %v", z, r, got)
			}
			if got := rect.Cover(r, z); got != r {
				t.Errorf("the cover of %v and %v: %v", r, z, got)
			}
		}
		for _, y := range []api.Rect{none, z, of(9, 9, 0, 1), of(math.MinInt, math.MaxInt, math.MinInt, math.MaxInt)} {
			if rect.Cut(z, y) != none || rect.Cut(y, z) != none || rect.Cover(z, y) != none || rect.Cover(y, z) != none {
				t.Errorf("%v and %v: %v %v", z, y, rect.Cut(z, y), rect.Cover(z, y))
			}
		}
		for _, by := range []int{-edge, 0, 1, edge} {
			if got := rect.Shift(z, by, -by); got != none {
				t.Errorf("%v, moved: %v", z, got)
			}
		}
		if got := rect.Bound(z); got != none {
			t.Errorf("%v, bound: %v", z, got)
		}
	}
}

// P7.2: a rectangle moves each way on its own, from one edge to beyond the other one; its size stays.
func TestShift(t *testing.T) {
	for _, r := range []api.Rect{of(1, 2, 3, 4), of(-edge, -edge, 2*edge, 2*edge), of(edge-1, -edge, 1, 7), of(-edge, edge-1, 7, 1)} {
		for _, x := range []int{-edge, -edge + 1, -5, 0, 1, edge - 1, edge} {
			for _, y := range []int{-edge, -2, 0, 6, edge} {
				if got := rect.Shift(r, x, y); got != of(r.X+x, r.Y+y, r.W, r.H) {
					t.Errorf("%v, moved by %d, %d: %v", r, x, y, got)
				}
			}
		}
	}
}

// bounded is, of one side, the first number within the edges and how many there are.
func bounded(at, size int) (int, int) {
	first, end := max(at, -edge), sum(at, max(size, 0))
	if end.Cmp(big.NewInt(edge)) > 0 {
		end = big.NewInt(edge)
	}
	n := end.Sub(end, big.NewInt(int64(first)))
	if n.Sign() < 1 {
		return 0, 0
	}
	return first, int(n.Int64())
}

// P7.3: of any rectangle the points within the edges are left, each way on its own.
func TestBound(t *testing.T) {
	for _, x := range sides() {
		for _, w := range sides() {
			for _, y := range []int{0, -edge - 2, -edge, edge - 1, edge, math.MinInt, math.MaxInt} {
				for _, h := range []int{1, 4, 2 * edge, math.MaxInt, 0, math.MinInt} {
					fx, nx := bounded(x, w)
					fy, ny := bounded(y, h)
					want := of(fx, fy, nx, ny)
					if nx == 0 || ny == 0 {
						want = none
					}
					if got := rect.Bound(of(x, y, w, h)); got != want {
						t.Fatalf("%v, bound: %v, not %v", of(x, y, w, h), got, want)
					}
					if got := rect.Bound(of(y, x, h, w)); got != of(want.Y, want.X, want.H, want.W) {
						t.Fatalf("%v, bound: %v, not %v turned", of(y, x, h, w), got, want)
					}
				}
			}
		}
	}
}

// Of any numbers no call panics, even where anything may be answered.
func TestAnything(t *testing.T) {
	for _, x := range sides() {
		for _, w := range sides() {
			for _, z := range sides() {
				a, b := of(x, z, w, 1), of(z, w, 1, x)
				rect.Cut(a, b)
				rect.Cover(a, b)
				rect.Shift(a, z, x)
			}
		}
	}
}
