package region_test

import (
	"math"
	"slices"
	"testing"

	"tableau/api"
	"tableau/rect"
	"tableau/region"
)

const edge = 1 << 24

type list = []api.Rect

// of is a rectangle.
func of(x, y, w, h int) api.Rect { return api.Rect{X: x, Y: y, W: w, H: h} }

// none is what is answered where there is no rectangle.
var none api.Rect

// grid is places at which columns and rows of points begin and end; some may have no points.
type grid struct{ xs, ys []int }

// plain is a grid of so many single points a side.
func plain(n int) grid {
	var l []int
	for i := range n + 1 {
		l = append(l, i)
	}
	return grid{l, l}
}

// wide is a grid of three by three from edge to edge.
func wide() grid {
	return grid{[]int{-edge, -7, 5, edge}, []int{-edge, -edge + 1, 0, edge}}
}

// span is one row's points, from left to just ahead of right.
type span struct{ left, right int }

// canon is the region of the fields of a grid that in says yes to, put together row by row as the document says.
func canon(g grid, in func(i, j int) bool) list {
	var l list
	var last []span
	begin := 0
	for j := range len(g.ys) - 1 {
		top, bottom := g.ys[j], g.ys[j+1]
		if top == bottom {
			continue
		}
		var now []span
		for i := range len(g.xs) - 1 {
			left, right := g.xs[i], g.xs[i+1]
			if left == right || !in(i, j) {
				continue
			}
			if n := len(now); n > 0 && now[n-1].right == left {
				now[n-1].right = right
			} else {
				now = append(now, span{left, right})
			}
		}
		if len(now) > 0 && slices.Equal(now, last) {
			for k := begin; k < len(l); k++ {
				l[k].H += bottom - top
			}
			continue
		}
		last, begin = now, len(l)
		for _, s := range now {
			l = append(l, of(s.left, top, s.right-s.left, bottom-top))
		}
	}
	return l
}

// bit tells whether a set of fields, a number's bits, has a field of a grid with n columns.
func bit(set, n int) func(i, j int) bool {
	return func(i, j int) bool { return set>>(j*n+i)&1 == 1 }
}

// like tells whether a list is just what it is to be, and, if it is to be nothing, nil.
func like(got, want list) bool {
	return slices.Equal(got, want) && (got == nil) == (len(want) == 0)
}

// P8.1: the edges that the document names, each with what it would be if it were a step aside.
func TestCheck(t *testing.T) {
	for i, x := range []struct {
		l    list
		want bool
	}{
		{nil, true},
		{list{}, true},
		{list{of(0, 0, 2, 2)}, true},
		// rect's Check
		{list{none}, false},
		{list{of(0, 0, 0, 2)}, false},
		{list{of(0, 0, 2, -1)}, false},
		{list{of(0, 0, 2, 2), none}, false},
		{list{of(-edge, -edge, 2*edge, 2*edge)}, true},
		{list{of(-edge-1, 0, 1, 1)}, false},
		{list{of(edge, 0, 1, 1)}, false},
		{list{of(edge-1, edge-1, 1, 1)}, true},
		{list{of(edge-1, edge-1, 1, 2)}, false},
		{list{of(0, 0, 1, 1), of(2, 0, edge-2, 1)}, true},
		{list{of(0, 0, 1, 1), of(2, 0, edge-1, 1)}, false},
		{list{of(0, 0, math.MaxInt, 1)}, false},
		{list{of(math.MaxInt, 0, math.MaxInt, 1)}, false},
		{list{of(math.MinInt, math.MinInt, math.MaxInt, math.MaxInt)}, false},
		{list{of(0, 0, 1, 1), of(math.MaxInt, math.MaxInt, math.MaxInt, math.MaxInt)}, false},
		// within a band
		{list{of(0, 0, 2, 1), of(1, 0, 2, 1)}, false},
		{list{of(0, 0, 2, 1), of(2, 0, 2, 1)}, false},
		{list{of(0, 0, 2, 1), of(3, 0, 2, 1)}, true},
		{list{of(3, 0, 2, 1), of(0, 0, 2, 1)}, false},
		{list{of(0, 0, 2, 1), of(0, 0, 2, 1)}, false},
		{list{of(0, 0, 2, 1), of(3, 0, 2, 2)}, false},
		{list{of(0, 0, 2, 2), of(3, 0, 2, 1)}, false},
		{list{of(0, 0, 2, 1), of(3, 0, 2, 1), of(6, 0, 1, 2)}, false},
		// a band and the one above it
		{list{of(0, 0, 1, 2), of(3, 1, 1, 2)}, false},
		{list{of(0, 0, 1, 2), of(3, 2, 1, 2)}, true},
		{list{of(0, 0, 1, 2), of(3, 7, 1, 2)}, true},
		{list{of(0, 2, 1, 2), of(3, 0, 1, 2)}, false},
		{list{of(0, 0, 1, 2), of(3, 2, 1, 2), of(0, 3, 1, 2)}, false},
		// two that could be one
		{list{of(0, 0, 1, 2), of(0, 2, 1, 1)}, false},
		{list{of(0, 0, 1, 2), of(0, 3, 1, 1)}, true},
		{list{of(0, 0, 1, 2), of(0, 2, 2, 1)}, true},
		{list{of(0, 0, 1, 2), of(1, 2, 1, 1)}, true},
		{list{of(0, 0, 1, 2), of(2, 0, 1, 2), of(0, 2, 1, 1)}, true},
		{list{of(0, 0, 1, 2), of(0, 2, 1, 1), of(2, 2, 1, 1)}, true},
		{list{of(0, 0, 1, 2), of(2, 0, 1, 2), of(0, 2, 1, 1), of(2, 2, 1, 1)}, false},
		{list{of(0, 0, 1, 2), of(2, 0, 1, 2), of(0, 2, 1, 1), of(2, 2, 2, 1)}, true},
		{list{of(0, 0, 1, 2), of(2, 0, 1, 2), of(0, 3, 1, 1), of(2, 3, 1, 1)}, true},
		{list{of(0, 0, 1, 1), of(0, 1, 2, 1), of(0, 2, 2, 1)}, false},
		{list{of(0, 0, 1, 1), of(0, 1, 2, 1), of(0, 2, 1, 1)}, true},
		{list{of(5, -edge, 1, edge), of(5, 0, 1, edge)}, false},
	} {
		if got := region.Check(x.l); got != x.want {
			t.Errorf("%d: %v: %v", i, x.l, got)
		}
	}
}

// small are the rectangles with points of a square of so many points a side.
func small(n int) list {
	var l list
	for y := range n {
		for x := range n {
			for w := 1; x+w <= n; w++ {
				for h := 1; y+h <= n; h++ {
					l = append(l, of(x, y, w, h))
				}
			}
		}
	}
	return l
}

// own is the region of all points that a list of small rectangles has.
func own(l list) list {
	return canon(plain(3), func(i, j int) bool {
		return slices.ContainsFunc(l, func(r api.Rect) bool { return rect.Has(r, i, j) })
	})
}

// P8.1: a set of points has just one region: of all lists of up to three small rectangles those are regions that are the one of their points.
func TestJustOne(t *testing.T) {
	all := small(3)
	check := func(l ...api.Rect) {
		if got, want := region.Check(l), slices.Equal(l, own(l)); got != want {
			t.Fatalf("%v: %v", l, got)
		}
	}
	for _, a := range all {
		check(a)
		for _, b := range all {
			check(a, b)
			for _, c := range all {
				check(a, b, c)
			}
		}
	}
}

// wrong are lists that are no regions.
func wrong() []list {
	return []list{
		{none},
		{of(0, 0, 4, 0)},
		{of(-1, 0, math.MaxInt, 4)},
		{of(0, 0, 4, edge+1)},
		{of(-edge-1, 0, edge+4, 4)},
		{of(0, 0, 2, 2), of(2, 0, 2, 2)},
		{of(0, 0, 2, 2), of(0, 2, 2, 2)},
		{of(0, 0, 4, 4), of(0, 0, 4, 4)},
		{of(0, 0, 4, 4), of(1, 1, 2, 2)},
		{of(5, 0, 1, 1), of(0, 0, 4, 1)},
		{of(0, 5, 4, 1), of(0, 0, 4, 1)},
		{of(0, 0, 4, 1), none},
	}
}

// P8.1: of what is no region, on whichever side it is, nothing is told.
func TestWrong(t *testing.T) {
	good := []list{nil, {of(0, 0, 4, 4)}, {of(-edge, -edge, 2*edge, 2*edge)}}
	for _, w := range wrong() {
		if region.Check(w) {
			t.Fatal(w)
		}
		for _, g := range append(good, w) {
			for _, f := range []func(a, b list) list{region.Union, region.Subtract, region.Intersect} {
				if f(w, g) != nil || f(g, w) != nil {
					t.Error(w, g, f(w, g), f(g, w))
				}
			}
		}
		if region.Shift(w, 0, 0) != nil || region.Shift(w, 1, -1) != nil {
			t.Error(w, region.Shift(w, 1, -1))
		}
		if region.Has(w, 0, 0) || region.Has(w, 1, 1) || region.Cover(w) != none || region.Area(w) != 0 {
			t.Error(w, region.Cover(w), region.Area(w))
		}
	}
}

// P8.2: the region of a rectangle is what of it is within the edges.
func TestOf(t *testing.T) {
	for _, x := range []struct {
		r    api.Rect
		want list
	}{
		{of(1, 2, 3, 4), list{of(1, 2, 3, 4)}},
		{none, nil},
		{of(1, 2, 0, 4), nil},
		{of(1, 2, 3, 0), nil},
		{of(1, 2, -3, -4), nil},
		{of(-edge-2, 5, 4, 1), list{of(-edge, 5, 2, 1)}},
		{of(5, -edge-2, 1, 3), list{of(5, -edge, 1, 1)}},
		{of(5, -edge-2, 1, 2), nil},
		{of(edge-1, edge-2, 7, 7), list{of(edge-1, edge-2, 1, 2)}},
		{of(edge, 0, 1, 1), nil},
		{of(-edge, -edge, math.MaxInt, math.MaxInt), list{of(-edge, -edge, 2*edge, 2*edge)}},
		{of(math.MaxInt, math.MaxInt, math.MaxInt, math.MaxInt), nil},
		{of(math.MinInt, 0, math.MaxInt, 1), list{of(-edge, 0, edge-1, 1)}},
		{of(math.MinInt, 0, math.MaxInt-edge+1, 1), nil},
		{of(-math.MaxInt, 0, math.MaxInt, 1), list{of(-edge, 0, edge, 1)}},
	} {
		if got := region.Of(x.r); !like(got, x.want) || !region.Check(got) {
			t.Errorf("%v: %v", x.r, got)
		}
	}
}

// two wants the answers of two sets of fields of a grid to be those of their fields.
func two(t *testing.T, g grid, p, q func(i, j int) bool) {
	t.Helper()
	a, b := canon(g, p), canon(g, q)
	for _, x := range []struct {
		name string
		got  list
		in   func(i, j int) bool
	}{
		{"union", region.Union(a, b), func(i, j int) bool { return p(i, j) || q(i, j) }},
		{"subtract", region.Subtract(a, b), func(i, j int) bool { return p(i, j) && !q(i, j) }},
		{"intersect", region.Intersect(a, b), func(i, j int) bool { return p(i, j) && q(i, j) }},
	} {
		if want := canon(g, x.in); !like(x.got, want) || !region.Check(x.got) {
			t.Fatalf("%s of %v and %v: %v, not %v", x.name, a, b, x.got, want)
		}
	}
}

// P8.2, P8.3: the answers of each two sets of nine fields, of single points and from edge to edge.
func TestTwo(t *testing.T) {
	g, h := plain(3), wide()
	for a := range 1 << 9 {
		for b := range 1 << 9 {
			two(t, g, bit(a, 3), bit(b, 3))
			if (a+b)%5 == 0 {
				two(t, h, bit(a, 3), bit(b, 3))
			}
		}
	}
}

// numbers is a row of numbers below what is asked, always the same one.
func numbers() func(n int) int {
	seed := uint32(1)
	return func(n int) int {
		seed = seed*1664525 + 1013904223
		return int(seed>>8) % n
	}
}

// uneven is a grid of columns and rows of uneven sizes, and of which some have no points.
func uneven(next func(int) int, n int) grid {
	xs, ys := []int{next(9) - 40}, []int{next(9) - 40}
	for range n {
		xs, ys = append(xs, xs[len(xs)-1]+next(4)), append(ys, ys[len(ys)-1]+next(4))
	}
	return grid{xs, ys}
}

// some is a set of fields, of which about one in so many is in.
func some(next func(int) int, n, many int) func(i, j int) bool {
	in := make([]bool, n*n)
	for i := range in {
		in[i] = next(many) == 0
	}
	return func(i, j int) bool { return in[j*n+i] }
}

// P8.2, P8.3: greater sets, sparse ones and thick ones.
func TestMany(t *testing.T) {
	next := numbers()
	for range 300 {
		g := uneven(next, 14)
		p, q := some(next, 14, 1+next(6)), some(next, 14, 1+next(6))
		two(t, g, p, q)
	}
}

// P8.2: the example, and ones that touch, lie in one another, or overlap.
func TestExample(t *testing.T) {
	for _, x := range []struct{ a, b, union, less, both list }{
		{list{of(0, 0, 2, 2)}, list{of(2, 0, 2, 2)}, list{of(0, 0, 4, 2)}, list{of(0, 0, 2, 2)}, nil},
		{list{of(0, 0, 2, 2)}, list{of(0, 2, 2, 2)}, list{of(0, 0, 2, 4)}, list{of(0, 0, 2, 2)}, nil},
		{nil, list{of(0, 0, 2, 2)}, list{of(0, 0, 2, 2)}, nil, nil},
		{
			list{of(-edge, -edge, 2*edge, 2*edge)}, list{of(0, 0, 1, 1)}, list{of(-edge, -edge, 2*edge, 2*edge)},
			list{of(-edge, -edge, 2*edge, edge), of(-edge, 0, edge, 1), of(1, 0, edge-1, 1), of(-edge, 1, 2*edge, edge-1)}, list{of(0, 0, 1, 1)},
		},
		{
			list{of(0, 0, 3, 3)}, list{of(1, 1, 3, 3)}, list{of(0, 0, 3, 1), of(0, 1, 4, 2), of(1, 3, 3, 1)},
			list{of(0, 0, 3, 1), of(0, 1, 1, 2)}, list{of(1, 1, 2, 2)},
		},
	} {
		if got := region.Union(x.a, x.b); !like(got, x.union) {
			t.Error(x.a, x.b, got)
		}
		if got := region.Subtract(x.a, x.b); !like(got, x.less) {
			t.Error(x.a, x.b, got)
		}
		if got := region.Intersect(x.a, x.b); !like(got, x.both) {
			t.Error(x.a, x.b, got)
		}
	}
}

// P8.2: which points are in, how many, and the least rectangle with all, of each set of nine points.
func TestOne(t *testing.T) {
	for set := range 1 << 9 {
		in := bit(set, 3)
		l := canon(plain(3), in)
		n, cover := 0, none
		for y := -1; y < 4; y++ {
			for x := -1; x < 4; x++ {
				want := x >= 0 && x < 3 && y >= 0 && y < 3 && in(x, y)
				if region.Has(l, x, y) != want {
					t.Fatalf("%d, %d of %v: not %v", x, y, l, want)
				}
				if want {
					n++
					cover = rect.Cover(cover, of(x, y, 1, 1))
				}
			}
		}
		if got := region.Area(l); got != n {
			t.Errorf("%v: %d points, not %d", l, got, n)
		}
		if got := region.Cover(l); got != cover {
			t.Errorf("%v: in %v, not %v", l, got, cover)
		}
	}
}

// P8.2: the same, from edge to edge.
func TestOneWide(t *testing.T) {
	all := list{of(-edge, -edge, 2*edge, 2*edge)}
	if region.Area(all) != 1<<50 || region.Cover(all) != all[0] {
		t.Error(region.Area(all), region.Cover(all))
	}
	corners := list{of(-edge, -edge, 1, 1), of(edge-2, -edge, 2, 1), of(-edge, edge-1, 1, 1)}
	if region.Area(corners) != 4 || region.Cover(corners) != all[0] {
		t.Error(region.Area(corners), region.Cover(corners))
	}
	for _, n := range []int{-edge, -1, 0, edge - 1} {
		if !region.Has(all, n, -n-1) {
			t.Error(n)
		}
	}
	for _, n := range []int{math.MinInt, -edge - 1, edge, edge + 1, math.MaxInt} {
		if region.Has(all, n, 0) || region.Has(all, 0, n) || region.Has(corners, n, n) {
			t.Error(n)
		}
	}
	if region.Has(nil, 0, 0) || region.Area(nil) != 0 || region.Cover(nil) != none {
		t.Error("of none")
	}
}

// moved are a grid's places, moved, none of them beyond an edge.
func moved(l []int, by int) []int {
	var m []int
	for _, n := range l {
		m = append(m, max(-edge, min(edge, n+by)))
	}
	return m
}

// P8.2, P8.3: each set of nine fields, moved to the edges and beyond them: what is left is a region again.
func TestShift(t *testing.T) {
	grids := []grid{plain(3), wide(), {[]int{-edge, -edge + 1, -edge + 2, -edge + 3}, []int{edge - 3, edge - 2, edge - 1, edge}}}
	ways := []int{0, 1, -2, 5, edge - 2, edge - 1, edge, -edge + 2, -edge + 1, -edge}
	for _, g := range grids {
		for set := range 1 << 9 {
			l := canon(g, bit(set, 3))
			for i, x := range ways {
				for k := range 3 {
					y := ways[(i*3+k*k+set)%len(ways)]
					want := canon(grid{moved(g.xs, x), moved(g.ys, y)}, bit(set, 3))
					if got := region.Shift(l, x, y); !like(got, want) || !region.Check(got) {
						t.Fatalf("%v, moved by %d, %d: %v, not %v", l, x, y, got, want)
					}
				}
			}
		}
	}
}

// P8.2: further than from edge to the middle no region is moved.
func TestShiftTooFar(t *testing.T) {
	l := list{of(-edge, -edge, 2*edge, 2*edge)}
	for _, n := range []int{math.MinInt, math.MinInt + edge, -2 * edge, -edge - 1, edge + 1, 2 * edge, math.MaxInt - edge, math.MaxInt} {
		if region.Shift(l, n, 0) != nil || region.Shift(l, 0, n) != nil || region.Shift(l, n, n) != nil {
			t.Error(n)
		}
	}
}

// kept runs f on lists with spare room and wants neither them nor their room to be turned.
func kept(t *testing.T, f func(a, b list) list) list {
	t.Helper()
	room := of(9, 9, 9, 9)
	begin := func() list {
		return list{of(0, 0, 4, 1), of(0, 1, 1, 2), of(3, 1, 1, 2), room, room, room, room}
	}
	a, b := begin(), begin()
	got := f(a[:3], b[:2])
	if !slices.Equal(a, begin()) || !slices.Equal(b, begin()) {
		t.Error("what was handed in is turned:", a, b)
	}
	for i := range got[:cap(got)] {
		got[:cap(got)][i] = room
	}
	_ = append(got, room)
	if !slices.Equal(a, begin()) || !slices.Equal(b, begin()) {
		t.Error("what was answered is what was handed in:", a, b)
	}
	return got
}

// Lists that are handed in stay as they are, and what is answered is new memory, spare room too.
func TestMemory(t *testing.T) {
	for _, f := range []func(a, b list) list{
		region.Union,
		region.Subtract,
		region.Intersect,
		func(a, b list) list { return region.Union(a, nil) },
		func(a, b list) list { return region.Union(nil, b) },
		func(a, b list) list { return region.Union(a, a) },
		func(a, b list) list { return region.Subtract(a, nil) },
		func(a, b list) list { return region.Intersect(a, a) },
		func(a, b list) list { return region.Shift(a, 0, 0) },
		func(a, b list) list { return region.Shift(a, edge-1, 0) },
		func(a, b list) list { return region.Of(a[0]) },
		func(a, b list) list { return region.Of(region.Cover(a)) },
	} {
		x, y := kept(t, f), kept(t, f)
		for i := range x {
			x[i] = none
		}
		if slices.Contains(y, none) {
			t.Error("two answers share memory")
		}
	}
}

// Regions of very many rectangles are put together in reasonable time.
func TestGreat(t *testing.T) {
	const n = 50000
	var rows, columns, steps list
	for i := range n {
		rows = append(rows, of(0, 2*i, 5, 1))
		columns = append(columns, of(2*i, 0, 1, 5))
		steps = append(steps, of(i, i, 2, 1))
	}
	for _, l := range []list{rows, columns, steps} {
		all := list{region.Cover(l)}
		if !like(region.Union(l, all), all) || !like(region.Intersect(l, all), l) || region.Subtract(l, all) != nil {
			t.Error("with all")
		}
		rest := region.Subtract(all, l)
		if !like(region.Union(rest, l), all) || region.Intersect(rest, l) != nil || region.Area(rest) != region.Area(all)-region.Area(l) {
			t.Error("with the rest")
		}
	}
}
