package repaint_test

import (
	"math"
	"math/rand"
	"reflect"
	"slices"
	"testing"

	"tableau/api"
	"tableau/canvas"
	"tableau/damage"
	"tableau/paint"
	"tableau/pixel"
	"tableau/region"
	"tableau/repaint"
)

// Limits, spelt without the package.
const (
	edge = 16777216
	most = 40
)

type (
	rects  = []api.Rect
	views  = []api.View
	images = []paint.Image
	dirt   = []repaint.Dirty
)

// far are numbers at the ends of what a number may be, and where parts of it end.
var far = []int{math.MinInt, math.MinInt + 1, -1 << 32, -1 << 31, -2*edge - 1, -2 * edge, -edge - 1, -edge, 1 - edge, -1, 0, 1, edge - 1, edge, edge + 1, 2*edge - 1, 2 * edge, 2*edge + 1, 1 << 31, 1 << 32, 1<<32 + 1, 1 << 62, math.MaxInt - 1, math.MaxInt}

// of is a rectangle.
func of(x, y, w, h int) api.Rect { return api.Rect{X: x, Y: y, W: w, H: h} }

// seen is a view of the buffer 1.
func seen(surface, x, y, w, h int) api.View {
	return api.View{Surface: surface, Buffer: 1, X: x, Y: y, W: w, H: h}
}

// is wants these rectangles; of none it wants nil.
func is(t *testing.T, got rects, want ...api.Rect) {
	t.Helper()
	if !slices.Equal(got, want) || (got == nil) != (len(want) == 0) {
		t.Fatalf("%v, not %v", got, want)
	}
}

// comb are n views of one point each, a point apart.
func comb(n int) views {
	var l views
	for i := range n {
		l = append(l, seen(100+i, 2*i, 0, 1, 1))
	}
	return l
}

// teeth are where they are.
func teeth(n int) rects {
	var l rects
	for i := range n {
		l = append(l, of(2*i, 0, 1, 1))
	}
	return l
}

// P24.1: the document's example, and what is no more than that: of two lists that are the same, nothing.
func TestNothing(t *testing.T) {
	is(t, repaint.Changed(nil, nil, nil))
	is(t, repaint.Changed(views{}, nil, dirt{}))
	l := views{seen(1, 0, 0, 4, 4), seen(2, 9, 9, 4, 4)}
	is(t, repaint.Changed(l, slices.Clone(l), nil))
	is(t, repaint.Changed(l, l, dirt{{}, {Surface: 1}, {Surface: 2, Damage: rects{}}}))
	is(t, repaint.Changed(l, l, dirt{{Surface: 1, Damage: rects{{}, of(1, 1, 0, 1), of(1, 1, 1, 0), of(1, 1, -2, 3)}}}))
	is(t, repaint.Changed(l, l, dirt{{Surface: 3, Damage: rects{of(0, 0, 4, 4)}}, {Surface: 0, Damage: rects{of(0, 0, 4, 4)}}}))
	is(t, repaint.Changed(nil, nil, dirt{{Surface: 1, Damage: rects{of(0, 0, 4, 4)}}}))
}

// P24.1: a view that is in one list alone.
func TestOne(t *testing.T) {
	a, b, c := seen(1, 0, 0, 2, 3), seen(2, 5, 1, 2, 1), seen(3, -4, 0, 1, 3)
	is(t, repaint.Changed(nil, views{a}, nil), of(0, 0, 2, 3))
	is(t, repaint.Changed(views{a}, nil, nil), of(0, 0, 2, 3))
	is(t, repaint.Changed(views{a}, views{a, b}, nil), of(5, 1, 2, 1))
	is(t, repaint.Changed(views{a, b}, views{a}, nil), of(5, 1, 2, 1))
	is(t, repaint.Changed(views{a, b, c}, views{a}, nil), of(-4, 0, 1, 1), of(-4, 1, 1, 1), of(5, 1, 2, 1), of(-4, 2, 1, 1))
	is(t, repaint.Changed(views{a}, views{a, c}, dirt{{Surface: 3, Damage: rects{of(0, 0, 1, 1)}}}), of(-4, 0, 1, 3))
}

// P24.1: places are held against each other, not surfaces: one that is gone from below moves those above.
func TestPlaces(t *testing.T) {
	a, b, c := seen(1, 0, 0, 2, 2), seen(2, 10, 0, 2, 2), seen(3, 20, 0, 2, 2)
	is(t, repaint.Changed(views{a, b, c}, views{b, c}, nil), of(0, 0, 2, 2), of(10, 0, 2, 2), of(20, 0, 2, 2))
	is(t, repaint.Changed(views{a, b, c}, views{a, c}, nil), of(10, 0, 2, 2), of(20, 0, 2, 2))
	is(t, repaint.Changed(views{a, b, c}, views{b, a, c}, nil), of(0, 0, 2, 2), of(10, 0, 2, 2))
	is(t, repaint.Changed(views{a, b, c}, views{a, b, c}, nil))
}

// P24.1: each field of a view counts, and both rectangles are changed, not what was damaged.
func TestFields(t *testing.T) {
	old := seen(1, 0, 0, 2, 2)
	all := dirt{{Surface: 1, Damage: rects{of(0, 0, 1, 1)}}, {Surface: 7, Damage: rects{of(0, 0, 1, 1)}}}
	for _, d := range []dirt{nil, all} {
		for _, x := range []struct {
			l    api.View
			want rects
		}{
			{api.View{Surface: 7, Buffer: 1, W: 2, H: 2}, rects{of(0, 0, 2, 2)}},
			{api.View{Surface: 1, Buffer: 7, W: 2, H: 2}, rects{of(0, 0, 2, 2)}},
			{seen(1, 7, 0, 2, 2), rects{of(0, 0, 2, 2), of(7, 0, 2, 2)}},
			{seen(1, 0, 7, 2, 2), rects{of(0, 0, 2, 2), of(0, 7, 2, 2)}},
			{seen(1, 0, 0, 7, 2), rects{of(0, 0, 7, 2)}},
			{seen(1, 0, 0, 2, 7), rects{of(0, 0, 2, 7)}},
			{seen(1, 0, 0, 0, 2), rects{of(0, 0, 2, 2)}},
			{seen(1, 1, 0, -2, 2), rects{of(0, 0, 2, 2)}},
		} {
			is(t, repaint.Changed(views{old}, views{x.l}, d), x.want...)
			is(t, repaint.Changed(views{x.l}, views{old}, d), x.want...)
		}
	}
}

// P24.1: what was damaged of a surface, where its view is, and no more than is in the view.
func TestDamage(t *testing.T) {
	l := views{seen(1, 3, -2, 4, 5)}
	for _, x := range []struct{ damage, want api.Rect }{
		{of(0, 0, 1, 1), of(3, -2, 1, 1)},
		{of(1, 2, 2, 1), of(4, 0, 2, 1)},
		{of(3, 4, 1, 1), of(6, 2, 1, 1)},
		{of(3, 4, 9, 9), of(6, 2, 1, 1)},
		{of(-9, -9, 10, 11), of(3, -2, 1, 2)},
		{of(-9, -9, 99, 99), of(3, -2, 4, 5)},
	} {
		is(t, repaint.Changed(l, l, dirt{{Surface: 1, Damage: rects{x.damage}}}), x.want)
	}
	for _, r := range (rects{of(4, 0, 1, 1), of(0, 5, 1, 1), of(-1, 0, 1, 1), of(0, -1, 1, 1), of(-3, -3, 3, 9), of(9, 9, 1, 1)}) {
		is(t, repaint.Changed(l, l, dirt{{Surface: 1, Damage: rects{r}}}))
	}
}

// P24.1: each Dirty of a surface counts, and each place where the surface is.
func TestDirties(t *testing.T) {
	l := views{seen(1, 0, 0, 4, 1), seen(2, 10, 0, 4, 1), seen(1, 20, 0, 2, 1)}
	d := dirt{{Surface: 1, Damage: rects{of(0, 0, 1, 1), of(3, 0, 1, 1)}}, {Surface: 2, Damage: rects{of(1, 0, 1, 1)}}, {Surface: 3, Damage: rects{of(0, 0, 9, 9)}}, {Surface: 1, Damage: rects{of(1, 0, 1, 1)}}}
	is(t, repaint.Changed(l, l, d), of(0, 0, 2, 1), of(3, 0, 1, 1), of(11, 0, 1, 1), of(20, 0, 2, 1))
	other := slices.Clone(l)
	other[2].Y = 5
	is(t, repaint.Changed(l, other, d), of(0, 0, 2, 1), of(3, 0, 1, 1), of(11, 0, 1, 1), of(20, 0, 2, 1), of(20, 5, 2, 1))
	is(t, repaint.Changed(l[:2], l, d), of(0, 0, 2, 1), of(3, 0, 1, 1), of(11, 0, 1, 1), of(20, 0, 2, 1))
}

// P24.1: of more than MaxRects rectangles there is one around them, and what comes next is put to that one.
func TestMany(t *testing.T) {
	is(t, repaint.Changed(nil, comb(most), nil), teeth(most)...)
	is(t, repaint.Changed(comb(most), nil, nil), teeth(most)...)
	is(t, repaint.Changed(nil, comb(most+1), nil), of(0, 0, 2*most+1, 1))
	is(t, repaint.Changed(nil, comb(most+3), nil), of(0, 0, 2*most+1, 1), of(2*most+2, 0, 1, 1), of(2*most+4, 0, 1, 1))
	wide := views{seen(1, 5, 0, 2*most+9, 1)}
	for n := most - 1; n < most+4; n++ {
		want := repaint.Changed(nil, comb(n), nil)
		is(t, repaint.Changed(wide, wide, dirt{{Surface: 1, Damage: teeth(n)}}), damage.Move(want, 5, 0)...)
	}
}

// P24.1: the order is told where there are too many on the way: old's is ahead of l's, the place below ahead of the one above.
func TestOrder(t *testing.T) {
	below, between := seen(1, 0, 10, 1, 1), seen(1, 1, 0, 1, 1)
	joined := append(rects{of(0, 0, 3, 1)}, teeth(most)[2:]...)
	first, last := of(0, 0, 2*most-1, 11), append(joined, of(0, 10, 1, 1))
	is(t, repaint.Changed(append(comb(most), below), append(comb(most), between), nil), of(1, 0, 1, 1), of(0, 10, 1, 1))
	is(t, repaint.Changed(views{below}, append(comb(most), between), nil), first)
	nowhere := slices.Repeat(views{seen(5, 0, 0, 0, 0)}, most)
	is(t, repaint.Changed(append(nowhere[:most:most], below), append(comb(most), between), nil), first)
	is(t, repaint.Changed(append(nowhere[:most:most], between), append(comb(most), below), nil), last...)
	is(t, repaint.Changed(nil, append(comb(most), below, between), nil), first)
	is(t, repaint.Changed(nil, append(comb(most), between, below), nil), last...)
}

// P24.1: so it is of what is damaged, within a Dirty, and from one to the next.
func TestDamageOrder(t *testing.T) {
	l := views{seen(1, 0, 0, 200, 20)}
	below, between := of(0, 10, 1, 1), of(1, 0, 1, 1)
	first := of(0, 0, 2*most-1, 11)
	last := append(append(rects{of(0, 0, 3, 1)}, teeth(most)[2:]...), below)
	for _, x := range []struct {
		damage, more rects
		want         rects
	}{
		{append(teeth(most), below, between), nil, rects{first}},
		{append(teeth(most), between, below), nil, last},
		{append(teeth(most), below), rects{between}, rects{first}},
		{append(teeth(most), between), rects{below}, last},
		{teeth(most), rects{below, between}, rects{first}},
		{teeth(most), rects{between, below}, last},
	} {
		is(t, repaint.Changed(l, l, dirt{{Surface: 1, Damage: x.damage}, {Surface: 2, Damage: rects{of(0, 0, 99, 9)}}, {Surface: 1, Damage: x.more}}), x.want...)
	}
}

// P24.1: what is damaged of a surface is within the edges ahead of being moved: what is beyond them is not moved into the view.
func TestBoundAhead(t *testing.T) {
	l := views{seen(1, -edge, -edge, 2*edge, 2*edge)}
	for _, x := range []struct{ damage, want api.Rect }{
		{of(edge-1, edge-1, 1, 1), of(-1, -1, 1, 1)},
		{of(edge-1, edge-2, 9, 9), of(-1, -2, 1, 2)},
		{of(0, 0, 2*edge, 2*edge), of(-edge, -edge, edge, edge)},
		{of(-1, -1, math.MaxInt, math.MaxInt), of(-edge, -edge, edge, edge)},
		{of(5, 6, math.MaxInt, math.MaxInt), of(5-edge, 6-edge, edge-5, edge-6)},
		{of(math.MinInt, 2, math.MaxInt, 1), api.Rect{}},
		{of(edge, 0, 1, 1), api.Rect{}},
		{of(0, edge, 1, 1), api.Rect{}},
		{of(edge+1, 0, 9, 9), api.Rect{}},
		{of(math.MaxInt, math.MaxInt, math.MaxInt, math.MaxInt), api.Rect{}},
	} {
		got := repaint.Changed(l, l, dirt{{Surface: 1, Damage: rects{x.damage}}})
		if x.want.W == 0 {
			is(t, got)
		} else {
			is(t, got, x.want)
		}
	}
	l = views{seen(1, edge-2, edge-3, 2, 3)}
	is(t, repaint.Changed(l, l, dirt{{Surface: 1, Damage: rects{of(1, 2, edge, edge)}}}), of(edge-1, edge-1, 1, 1))
	is(t, repaint.Changed(l, l, dirt{{Surface: 1, Damage: rects{of(-edge, -edge, 2*edge, 2*edge)}}}), of(edge-2, edge-3, 2, 3))
}

// P24.1: nothing is damaged of a view that may not be; where it was or is another one, what of it is within the edges is changed.
func TestNoRect(t *testing.T) {
	d := dirt{{Surface: 1, Damage: rects{of(-edge, -edge, 2*edge, 2*edge)}}}
	for _, x := range []struct{ r, want api.Rect }{
		{of(edge-1, 0, 2, 3), of(edge-1, 0, 1, 3)},
		{of(0, edge-1, 3, 2), of(0, edge-1, 3, 1)},
		{of(-edge-1, 0, 3, 3), of(-edge, 0, 2, 3)},
		{of(0, -edge-1, 3, 3), of(0, -edge, 3, 2)},
		{of(-edge, -edge, 2*edge+1, 1), of(-edge, -edge, 2*edge, 1)},
		{of(5, 5, math.MaxInt, math.MaxInt), of(5, 5, edge-5, edge-5)},
		{of(edge, 0, 1, 1), api.Rect{}},
		{of(math.MaxInt, 0, 1, 1), api.Rect{}},
		{of(math.MinInt, math.MinInt, math.MaxInt, math.MaxInt), of(-edge, -edge, edge-1, edge-1)},
		{of(0, 0, 0, 1), api.Rect{}},
		{of(0, 0, 1, 0), api.Rect{}},
		{of(0, 0, 1, math.MinInt), api.Rect{}},
	} {
		l := views{seen(1, x.r.X, x.r.Y, x.r.W, x.r.H)}
		is(t, repaint.Changed(l, l, d))
		for _, got := range []rects{repaint.Changed(nil, l, d), repaint.Changed(l, nil, d), repaint.Changed(l, views{{Surface: 1}}, d)} {
			if x.want.W == 0 {
				is(t, got)
			} else {
				is(t, got, x.want)
			}
		}
	}
}

// number is mostly a small one.
func number(r *rand.Rand, odd int) int {
	if r.Intn(odd) == 0 {
		return far[r.Intn(len(far))]
	}
	return r.Intn(14) - 4
}

// anyRects are up to n of any.
func anyRects(r *rand.Rand, n, odd int) rects {
	var l rects
	for range r.Intn(n + 1) {
		l = append(l, of(number(r, odd), number(r, odd), number(r, odd), number(r, odd)))
	}
	return l
}

// anyViews are up to n of any.
func anyViews(r *rand.Rand, n, odd int) views {
	var l views
	for range r.Intn(n + 1) {
		l = append(l, api.View{Surface: r.Intn(4), Buffer: r.Intn(4), X: number(r, odd), Y: number(r, odd), W: number(r, odd), H: number(r, odd)})
	}
	return l
}

// turned is a list in which some views are other ones.
func turned(r *rand.Rand, old views, odd int) views {
	l := slices.Clone(old)
	for i := range l {
		if r.Intn(4) == 0 {
			l[i].X = number(r, odd)
		}
	}
	switch r.Intn(4) {
	case 0:
		return append(l, anyViews(r, 3, odd)...)
	case 1:
		return l[:r.Intn(len(l)+1)]
	}
	return l
}

// span is from where to where those of the numbers at, at + 1, .. (size of them) are that are from low to just ahead of high; 0, 0 of none. Whether the last one is beyond high is asked of floats: an int may be too small for it.
func span(at, size, low, high int) (int, int) {
	if size < 1 || at >= high {
		return 0, 0
	}
	to := high
	if float64(at)+float64(size) < float64(high) {
		to = at + size
	}
	from := max(at, low)
	if from >= to {
		return 0, 0
	}
	return from, to
}

// own is what is damaged of a view by the document's words; zero of nothing.
func own(v api.View, r api.Rect) api.Rect {
	left, right := span(v.X, v.W, -edge, edge)
	top, bottom := span(v.Y, v.H, -edge, edge)
	if left != v.X || right != v.X+v.W || top != v.Y || bottom != v.Y+v.H || left == right || top == bottom {
		return api.Rect{}
	}
	x, x2 := span(r.X, r.W, -edge, edge)
	y, y2 := span(r.Y, r.H, -edge, edge)
	x, x2 = max(x+v.X, left), min(x2+v.X, right)
	y, y2 = max(y+v.Y, top), min(y2+v.Y, bottom)
	if x >= x2 || y >= y2 {
		return api.Rect{}
	}
	return of(x, y, x2-x, y2-y)
}

// changed is what is changed by the document's words.
func changed(old, l views, dirty dirt) rects {
	var all rects
	for i := 0; i < len(old) || i < len(l); i++ {
		if i < len(old) && i < len(l) && old[i] == l[i] {
			for _, d := range dirty {
				for _, r := range d.Damage {
					if d.Surface == l[i].Surface {
						all = damage.Add(all, own(l[i], r))
					}
				}
			}
			continue
		}
		if i < len(old) {
			all = damage.Add(all, of(old[i].X, old[i].Y, old[i].W, old[i].H))
		}
		if i < len(l) {
			all = damage.Add(all, of(l[i].X, l[i].Y, l[i].W, l[i].H))
		}
	}
	return all
}

// P24.1: any views, any damage.
func TestModel(t *testing.T) {
	r := rand.New(rand.NewSource(2401))
	for i := range 3000 {
		odd := []int{1, 3, 20, 1000}[i%4]
		old := anyViews(r, 8, odd)
		l := turned(r, old, odd)
		var dirty dirt
		for range r.Intn(5) {
			dirty = append(dirty, repaint.Dirty{Surface: r.Intn(4), Damage: anyRects(r, 12, odd)})
		}
		got := repaint.Changed(old, l, dirty)
		is(t, got, changed(old, l, dirty)...)
		if len(got) > most || !region.Check(got) {
			t.Fatal("no region:", got)
		}
	}
}

// P24.1, R3: the lists are as they were, also behind their ends; nothing is kept of them, and each answer is another list.
func TestChangedKeeps(t *testing.T) {
	make3 := func() views {
		return append(make(views, 0, 9), seen(1, 0, 0, 1, 1), seen(2, 5, 0, 1, 1), seen(3, 9, 0, 4, 1))
	}
	old, l := make3(), make3()
	l[0].Y, l[1].Y = 3, 3
	mine := append(make(rects, 0, 9), of(0, 0, 1, 1), of(2, 0, 1, 1), of(3, 0, 1, 1))
	dirty := append(make(dirt, 0, 4), repaint.Dirty{Surface: 3, Damage: mine[:2]}, repaint.Dirty{Surface: 4, Damage: mine[2:]})
	want := rects{of(0, 0, 1, 1), of(5, 0, 1, 1), of(9, 0, 1, 1), of(11, 0, 1, 1), of(0, 3, 1, 1), of(5, 3, 1, 1)}
	a := repaint.Changed(old, l, dirty)
	b := repaint.Changed(old, l, dirty)
	short := repaint.Changed(old[:1], l[:1], dirty)
	is(t, short, of(0, 0, 1, 1), of(0, 3, 1, 1))
	is(t, a, want...)
	clear(a[:cap(a)])
	is(t, b, want...)
	if x := make3(); !slices.Equal(old, x) || l[2] != x[2] || l[0] != seen(1, 0, 3, 1, 1) || l[1] != seen(2, 5, 3, 1, 1) {
		t.Fatal("a list of views was turned:", old, l)
	}
	if slices.ContainsFunc(old[3:9], func(v api.View) bool { return v != api.View{} }) || slices.ContainsFunc(l[3:9], func(v api.View) bool { return v != api.View{} }) {
		t.Fatal("it was written behind a list")
	}
	if !slices.Equal(mine, rects{of(0, 0, 1, 1), of(2, 0, 1, 1), of(3, 0, 1, 1)}) || dirty[0].Surface != 3 || len(dirty[0].Damage) != 2 || dirty[1].Surface != 4 || mine[:4][3] != (api.Rect{}) {
		t.Fatal("what is dirty was turned:", dirty, mine)
	}
	mine[0], old[0], l[0] = api.Rect{}, api.View{}, api.View{}
	is(t, b, want...)
	is(t, repaint.Changed(old, l, nil), of(5, 0, 1, 1), of(5, 3, 1, 1))
}

// colours are n of any, many of which are nought, or have an a of 255.
func colours(r *rand.Rand, n int) []uint32 {
	l := make([]uint32, n)
	for i := range l {
		l[i] = r.Uint32()
		switch r.Intn(3) {
		case 0:
			l[i] |= 0xff000000
		case 1:
			l[i] &= 0x3f3f3f3f
		}
	}
	return l
}

// screen is a canvas with these points.
func screen(t *testing.T, w, h int, points []uint32) *canvas.Canvas {
	t.Helper()
	c, err := canvas.New(w, h)
	if err != nil {
		t.Fatal(err)
	}
	for i, v := range points {
		c.Fill(v, rects{of(i%w, i/w, 1, 1)})
	}
	return c
}

// shows wants a canvas to have these points.
func shows(t *testing.T, c *canvas.Canvas, want ...uint32) {
	t.Helper()
	if got := c.Pixels(); !slices.Equal(got, want) {
		t.Fatalf("%x, not %x", got, want)
	}
}

// within tells whether a point is one of a rectangle's.
func within(r api.Rect, x, y int) bool {
	return r.X <= x && r.Y <= y && r.W > 0 && r.H > 0 && uint(x)-uint(r.X) < uint(r.W) && uint(y)-uint(r.Y) < uint(r.H)
}

// in tells whether a point is in one of these.
func in(l rects, x, y int) bool {
	return slices.ContainsFunc(l, func(r api.Rect) bool { return within(r, x, y) })
}

// fold is a point by the document's words: from back on, what the views that have it there have, one over the other one.
func fold(x, y int, back uint32, l views, list images) uint32 {
	v := back
	for _, s := range l {
		i := slices.IndexFunc(list, func(image paint.Image) bool { return image.Buffer == s.Buffer })
		if i < 0 || s.X > x || s.Y > y || s.X < -edge || s.Y < -edge {
			continue
		}
		column, row, w, h := x-s.X, y-s.Y, list[i].W, list[i].H
		if column >= w || row >= h || w > edge || h > edge {
			continue
		}
		if at := row*w + column; at < len(list[i].Pixels) {
			v = pixel.Over(v, list[i].Pixels[at])
		}
	}
	return v
}

// P24.2: in the rectangles it is as All, beside them as it was.
func TestPart(t *testing.T) {
	half := uint32(0x80800000)
	list := images{{Buffer: 1, W: 2, H: 1, Pixels: []uint32{half, 0xff000002}}, {Buffer: 2, W: 1, H: 1, Pixels: []uint32{half}}}
	l := views{{Buffer: 1, X: 1}, {Buffer: 2, X: 1}, {Buffer: 3}}
	one := pixel.Over(0xff0000ff, half)
	two := pixel.Over(one, half)
	for _, x := range []struct {
		clip rects
		want []uint32
	}{
		{nil, []uint32{5, 6, 7, 8}},
		{rects{{}}, []uint32{5, 6, 7, 8}},
		{rects{of(0, 0, 1, 1)}, []uint32{0xff0000ff, 6, 7, 8}},
		{rects{of(1, 0, 1, 1)}, []uint32{5, two, 7, 8}},
		{rects{of(1, 0, 2, 1)}, []uint32{5, two, 0xff000002, 8}},
		{rects{of(3, 0, 1, 1), of(1, 0, 1, 1)}, []uint32{5, two, 7, 0xff0000ff}},
		{rects{of(1, 0, 1, 1), of(0, 0, 3, 9), of(1, -5, 1, 6)}, []uint32{0xff0000ff, two, 0xff000002, 8}},
		{rects{of(0, 0, 4, 1)}, []uint32{0xff0000ff, two, 0xff000002, 0xff0000ff}},
		{rects{of(0, 1, 4, 1), of(4, 0, 1, 1), of(-1, 0, 1, 1), of(0, 0, -1, 1), of(0, 0, 4, 0)}, []uint32{5, 6, 7, 8}},
		{rects{of(-edge, -edge, 2*edge, 2*edge)}, []uint32{0xff0000ff, two, 0xff000002, 0xff0000ff}},
		{rects{of(1, 0, math.MaxInt, math.MaxInt)}, []uint32{5, two, 0xff000002, 0xff0000ff}},
		{rects{of(math.MinInt, math.MinInt, math.MaxInt, math.MaxInt), of(math.MaxInt, 0, math.MaxInt, 1)}, []uint32{5, 6, 7, 8}},
	} {
		c := screen(t, 4, 1, []uint32{5, 6, 7, 8})
		repaint.Part(c, 0xff0000ff, l, list, x.clip)
		shows(t, c, x.want...)
	}
}

// P24.2: the first image of a buffer is drawn, as great as it is, whatever the view says.
func TestPartImages(t *testing.T) {
	list := images{{Buffer: 1, W: 1, H: 2, Pixels: []uint32{0xff000001, 0xff000002}}, {Buffer: 1, W: 2, H: 2, Pixels: []uint32{9, 9, 9, 9}}, {Buffer: 2, W: 2, H: 0, Pixels: []uint32{9, 9}}, {Buffer: 3, W: 2, H: 2, Pixels: []uint32{0, 0xff000003}}}
	all := rects{of(0, 0, 2, 2)}
	c := screen(t, 2, 2, nil)
	repaint.Part(c, 4, views{{Buffer: 1, W: 0, H: 0}}, list, all)
	shows(t, c, 0xff000001, 4, 0xff000002, 4)
	repaint.Part(c, 4, views{{Buffer: 2, W: 2, H: 2}}, list, all)
	shows(t, c, 4, 4, 4, 4)
	repaint.Part(c, 4, views{{Buffer: 3, W: 2, H: 2}, {Buffer: 1, X: 1, Y: 1}}, list, all)
	shows(t, c, 4, 0xff000003, 4, 0xff000001)
	repaint.Part(c, 5, nil, nil, rects{of(1, 1, 1, 1)})
	shows(t, c, 4, 0xff000003, 4, 5)
}

// P24.2, P24.3: any views of any images, in any rectangles, again and again on one canvas, point by point.
func TestPartModel(t *testing.T) {
	r := rand.New(rand.NewSource(2402))
	for i := range 300 {
		odd := []int{2, 10, 1000}[i%3]
		w, h := 1+r.Intn(9), 1+r.Intn(9)
		c := screen(t, w, h, colours(r, w*h))
		for range 5 {
			var list images
			for range r.Intn(6) {
				list = append(list, paint.Image{Buffer: r.Intn(5), W: number(r, odd), H: number(r, odd), Pixels: colours(r, r.Intn(60))})
			}
			l, clip, back := anyViews(r, 7, odd), anyRects(r, 6, odd), colours(r, 1)[0]
			want := c.Pixels()
			for i := range want {
				if x, y := i%w, i/w; in(clip, x, y) {
					want[i] = fold(x, y, back, l, list)
				}
			}
			repaint.Part(c, back, l, list, clip)
			shows(t, c, want...)
		}
	}
}

// P24.3: two screens that are the same outside of the rectangles: one in part is the other one in all.
func TestPartIsAll(t *testing.T) {
	r := rand.New(rand.NewSource(2403))
	for range 300 {
		w, h := 1+r.Intn(9), 1+r.Intn(9)
		var list images
		for i := range 4 {
			list = append(list, paint.Image{Buffer: i, W: 4, H: 3, Pixels: colours(r, 12)})
		}
		l, clip, back := anyViews(r, 7, 20), anyRects(r, 5, 20), r.Uint32()
		whole := screen(t, w, h, nil)
		paint.All(whole, back, l, list)
		part := whole.Copy()
		for i := range w * h {
			if x, y := i%w, i/w; in(clip, x, y) {
				part.Fill(r.Uint32(), rects{of(x, y, 1, 1)})
			}
		}
		repaint.Part(part, back, l, list, clip)
		shows(t, part, whole.Pixels()...)
	}
}

// world is what is on a screen: each surface has a buffer of its number, and each view is as great as its image.
type world struct {
	r    *rand.Rand
	list images
	l    views
}

// view is any of a world's.
func (o *world) view() api.View {
	id := o.r.Intn(len(o.list))
	return api.View{Surface: id, Buffer: id, X: o.r.Intn(20) - 5, Y: o.r.Intn(20) - 5, W: o.list[id].W, H: o.list[id].H}
}

// turn moves views, and takes, adds, changes some.
func (o *world) turn() {
	l := slices.Clone(o.l)
	for range o.r.Intn(3) {
		switch i := o.r.Intn(len(l) + 1); {
		case i == len(l):
			l = append(l, o.view())
		case o.r.Intn(3) == 0:
			l = slices.Delete(l, i, i+1)
		case o.r.Intn(2) == 0:
			l[i].X++
		default:
			l[i] = o.view()
		}
	}
	o.l = l
}

// damage turns points of images, and tells which; what it tells is more now and then than what it turns.
func (o *world) damage() dirt {
	var dirty dirt
	for range o.r.Intn(4) {
		id := o.r.Intn(len(o.list))
		l := anyRects(o.r, 3, 30)
		image := o.list[id]
		points := slices.Clone(image.Pixels)
		for i := range points {
			if in(l, i%image.W, i/image.W) && o.r.Intn(4) > 0 {
				points[i] = o.r.Uint32()
			}
		}
		o.list[id].Pixels = points
		dirty = append(dirty, repaint.Dirty{Surface: id, Damage: l})
	}
	return dirty
}

// P24.3: where nothing but what is Changed has turned, Part in that is All, however many times.
func TestChangedIsEnough(t *testing.T) {
	r := rand.New(rand.NewSource(2404))
	less := 0
	for range 200 {
		o := &world{r: r}
		for i := range 5 {
			w, h := 1+r.Intn(6), 1+r.Intn(6)
			o.list = append(o.list, paint.Image{Buffer: i, W: w, H: h, Pixels: colours(r, w*h)})
		}
		for range r.Intn(7) {
			o.l = append(o.l, o.view())
		}
		back := colours(r, 1)[0]
		c := screen(t, 13, 14, nil)
		paint.All(c, back, o.l, o.list)
		for range 8 {
			old := o.l
			o.turn()
			clip := repaint.Changed(old, o.l, o.damage())
			if region.Area(damage.Clip(clip, of(0, 0, 13, 14))) < 13*14 {
				less++
			}
			repaint.Part(c, back, o.l, o.list, clip)
			whole := screen(t, 13, 14, nil)
			paint.All(whole, back, o.l, o.list)
			shows(t, c, whole.Pixels()...)
		}
	}
	if less < 1000 {
		t.Fatal("nearly always all was painted:", less)
	}
}

// P24.2, R3, R4: the lists are as they were, and nothing is kept of them; one canvas says nothing of another one.
func TestPartKeeps(t *testing.T) {
	points := []uint32{0xff000001, 0x80000002, 7, 8}
	list := images{{Buffer: 1, W: 2, H: 1, Pixels: points[:2]}, {Buffer: 1, W: 1}}
	l := views{{Surface: 4, Buffer: 1, X: 0, Y: 1, W: 3, H: 4}, {Buffer: 9}}
	clip := rects{of(1, 0, 1, 9), of(0, 1, math.MaxInt, 1), {}}
	a, b := screen(t, 2, 2, nil), screen(t, 2, 2, nil)
	repaint.Part(a, 0xff000000, l, list, clip)
	was := a.Pixels()
	if !slices.Equal(l, views{{Surface: 4, Buffer: 1, X: 0, Y: 1, W: 3, H: 4}, {Buffer: 9}}) || !reflect.DeepEqual(list, images{{Buffer: 1, W: 2, H: 1, Pixels: []uint32{0xff000001, 0x80000002}}, {Buffer: 1, W: 1}}) || !slices.Equal(points, []uint32{0xff000001, 0x80000002, 7, 8}) || !slices.Equal(clip, rects{of(1, 0, 1, 9), of(0, 1, math.MaxInt, 1), {}}) {
		t.Fatal("a list was turned:", l, list, points, clip)
	}
	shows(t, b, 0, 0, 0, 0)
	repaint.Part(b, 0xff000000, l, list, clip)
	shows(t, b, was...)
	points[0], l[0].X, list[0].W, clip[0].H = 99, 1, 1, 1
	shows(t, a, was...)
	repaint.Part(a, 3, nil, nil, rects{of(0, 0, 2, 2)})
	shows(t, a, 3, 3, 3, 3)
	shows(t, b, was...)
}
