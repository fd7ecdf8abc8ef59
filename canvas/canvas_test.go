package canvas_test

import (
	"errors"
	"math"
	"slices"
	"testing"

	"tableau/api"
	"tableau/canvas"
	"tableau/pixel"
)

const (
	edge = 1 << 24
	most = 48
)

type list = []api.Rect

// of is a rectangle.
func of(x, y, w, h int) api.Rect { return api.Rect{X: x, Y: y, W: w, H: h} }

// all is a clip with each point of any canvas.
func all() list { return list{of(0, 0, most, most)} }

// blank is a canvas that may be.
func blank(t *testing.T, w, h int) *canvas.Canvas {
	t.Helper()
	c, err := canvas.New(w, h)
	if c == nil || err != nil {
		t.Fatal(w, h, c, err)
	}
	return c
}

// want wants the points of a canvas to be these, asked all at once and one by one.
func want(t *testing.T, c *canvas.Canvas, points ...uint32) {
	t.Helper()
	if got := c.Pixels(); !slices.Equal(got, points) {
		t.Fatalf("%x, not %x", got, points)
	}
	w, h := c.Size()
	for y := range h {
		for x := range w {
			if v := c.At(x, y); v != points[y*w+x] {
				t.Fatalf("%d, %d: %x", x, y, v)
			}
		}
	}
}

// dice are numbers that look like any, the same ones at each run.
type dice uint64

// roll is a number from 0 to just ahead of n.
func (d *dice) roll(n int) int {
	*d = *d*6364136223846793005 + 1442695040888963407
	return int(uint64(*d>>33) % uint64(n))
}

// colours are n of any.
func (d *dice) colours(n int) []uint32 {
	l := make([]uint32, n)
	for i := range l {
		l[i] = uint32(d.roll(1<<16)<<16 | d.roll(1<<16))
	}
	return l
}

// clip is some rectangles, about a canvas of w and h: empty ones, ones beside it, ones over one another.
func (d *dice) clip(w, h int) list {
	var l list
	for range d.roll(6) {
		l = append(l, of(d.roll(2*w+6)-w/2-3, d.roll(2*h+6)-h/2-3, d.roll(w+3)-1, d.roll(h+3)-1))
	}
	return l
}

// holds tells whether one of the rectangles has a point; all of them are small.
func holds(l list, x, y int) bool {
	return slices.ContainsFunc(l, func(r api.Rect) bool {
		return x >= r.X && y >= r.Y && x < r.X+r.W && y < r.Y+r.H
	})
}

// board is a canvas told plainly.
type board struct {
	w, h   int
	points []uint32
}

func (b *board) fill(v uint32, clip list) {
	for i := range b.points {
		if holds(clip, i%b.w, i/b.w) {
			b.points[i] = v
		}
	}
}

func (b *board) draw(x, y, w, h int, pixels []uint32, clip list) {
	for i, v := range b.points {
		px, py := i%b.w, i/b.w
		if !holds(clip, px, py) || !holds(list{of(x, y, w, h)}, px, py) {
			continue
		}
		over := uint32(0)
		if at := (py-y)*w + px - x; at < len(pixels) {
			over = pixels[at]
		}
		b.points[i] = pixel.Over(v, over)
	}
}

// P14.1: a side may be from 1 to MaxSide; all points are 0.
func TestNew(t *testing.T) {
	for _, x := range [][2]int{{1, 1}, {1, most}, {most, 1}, {most, most}, {2, 3}, {47, 11}} {
		c := blank(t, x[0], x[1])
		if w, h := c.Size(); w != x[0] || h != x[1] {
			t.Error(x, w, h)
		}
		want(t, c, make([]uint32, x[0]*x[1])...)
	}
}

// P14.1: no other side may be, whichever of both it is.
func TestNewWrong(t *testing.T) {
	for _, n := range []int{math.MinInt, -1 << 32, -1 << 31, -most, -1, 0, most + 1, 2 * most, 1 << 16, 1 << 31, 1 << 32, 1<<32 + 1, math.MaxInt} {
		for _, x := range [][2]int{{n, 1}, {1, n}, {n, most}, {most, n}, {n, n}} {
			if c, err := canvas.New(x[0], x[1]); c != nil || !errors.Is(err, api.ErrArg) {
				t.Error(x, c, err)
			}
		}
	}
}

// P14.1: row by row, from the top, each from the left.
func TestPixels(t *testing.T) {
	c := blank(t, 3, 2)
	for i := range 6 {
		c.Fill(uint32(i+1), list{of(i%3, i/3, 1, 1)})
	}
	want(t, c, 1, 2, 3, 4, 5, 6)
	if c.At(2, 0) != 3 || c.At(0, 1) != 4 {
		t.Error(c.At(2, 0), c.At(0, 1))
	}
}

// P14.1: a point that is none is 0, beside a row's ends too.
func TestAtNone(t *testing.T) {
	c := blank(t, 3, 2)
	c.Fill(7, all())
	far := []int{math.MinInt, -1 << 32, -edge, -4, -3, -2, -1, 3, 4, 5, 6, most, edge, 1 << 32, math.MaxInt}
	for _, n := range far {
		for _, v := range []uint32{c.At(n, 0), c.At(n, 1), c.At(0, n), c.At(2, n), c.At(n, n), c.At(n, -1), c.At(-1, n)} {
			if v != 0 {
				t.Fatal(n, v)
			}
		}
	}
	if c.At(0, 2) != 0 || c.At(2, 2) != 0 || c.At(2, 1) != 7 {
		t.Error(c.Pixels())
	}
}

// P14.1, R4: a copy is the same, and is turned by nothing that turns the other one.
func TestCopy(t *testing.T) {
	c := blank(t, 2, 3)
	c.Fill(5, list{of(1, 0, 1, 2)})
	d := c.Copy()
	if w, h := d.Size(); w != 2 || h != 3 {
		t.Error(w, h)
	}
	want(t, d, 0, 5, 0, 5, 0, 0)
	d.Fill(1, all())
	want(t, c, 0, 5, 0, 5, 0, 0)
	c.Draw(0, 0, 1, 1, []uint32{0xff000003}, all())
	want(t, c, 0xff000003, 5, 0, 5, 0, 0)
	want(t, d, 1, 1, 1, 1, 1, 1)
	e := d.Copy().Copy()
	d.Fill(2, all())
	want(t, e, 1, 1, 1, 1, 1, 1)
}

// P14.2: the document's example, and clips of all kinds.
func TestFill(t *testing.T) {
	for i, x := range []struct {
		clip list
		want []uint32
	}{
		{all(), []uint32{7, 7, 7, 7, 7, 7}},
		{list{of(0, 0, 3, 2)}, []uint32{7, 7, 7, 7, 7, 7}},
		{nil, []uint32{1, 1, 1, 1, 1, 1}},
		{list{}, []uint32{1, 1, 1, 1, 1, 1}},
		{list{of(1, 0, 1, 1)}, []uint32{1, 7, 1, 1, 1, 1}},
		{list{of(2, 0, 9, 1)}, []uint32{1, 1, 7, 1, 1, 1}},
		{list{of(-5, 1, 6, 1)}, []uint32{1, 1, 1, 7, 1, 1}},
		{list{of(-5, 1, 5, 1)}, []uint32{1, 1, 1, 1, 1, 1}},
		{list{of(3, 0, 9, 9), of(0, 2, 9, 9), of(0, -3, 9, 3)}, []uint32{1, 1, 1, 1, 1, 1}},
		{list{of(0, 0, 0, 9), of(0, 0, 9, 0), of(2, 1, -1, 1), of(2, 1, 1, -1), {}}, []uint32{1, 1, 1, 1, 1, 1}},
		// not in bands, over one another, one of them twice, an empty one between
		{list{of(1, 1, 1, 1), of(0, 0, 9, 0), of(0, 0, 2, 1), of(1, 0, 1, 2), of(1, 1, 1, 1)}, []uint32{7, 7, 1, 1, 7, 1}},
	} {
		c := blank(t, 3, 2)
		c.Fill(1, all())
		c.Fill(7, x.clip)
		if got := c.Pixels(); !slices.Equal(got, x.want) {
			t.Errorf("%d: %v", i, got)
		}
	}
}

// P14.2: any rectangles are a clip, as Bound of them.
func TestFar(t *testing.T) {
	low, high := math.MinInt, math.MaxInt
	for i, x := range []struct {
		r    api.Rect
		want []uint32
	}{
		{of(-edge, -edge, 2*edge, 2*edge), []uint32{7, 7, 7, 7}},
		{of(-edge-9, -edge-9, high, high), []uint32{7, 7, 7, 7}},
		{of(0, 0, high, high), []uint32{7, 7, 7, 7}},
		{of(1, 1, high, high), []uint32{0, 0, 0, 7}},
		{of(1, -edge, high, high), []uint32{0, 7, 0, 7}},
		{of(low, low, high, high), []uint32{0, 0, 0, 0}},
		{of(low, 0, high, 1), []uint32{0, 0, 0, 0}},
		{of(low+2, 0, high, 1), []uint32{7, 0, 0, 0}},
		{of(low+3, low+2, high, high), []uint32{7, 7, 0, 0}},
		{of(high, high, high, high), []uint32{0, 0, 0, 0}},
		{of(0, 0, low, low), []uint32{0, 0, 0, 0}},
		{of(0, 0, low, 1), []uint32{0, 0, 0, 0}},
		{of(edge, 0, 1, 1), []uint32{0, 0, 0, 0}},
		{of(1-edge, 0, edge, 1), []uint32{7, 0, 0, 0}},
		{of(1<<32, 0, 1, 1), []uint32{0, 0, 0, 0}},
	} {
		c := blank(t, 2, 2)
		c.Fill(7, list{x.r})
		if got := c.Pixels(); !slices.Equal(got, x.want) {
			t.Errorf("fill %d: %v", i, got)
		}
		d := blank(t, 2, 2)
		d.Draw(0, 0, 2, 2, []uint32{7, 7, 7, 7}, list{x.r})
		if got := d.Pixels(); !slices.Equal(got, x.want) {
			t.Errorf("draw %d: %v", i, got)
		}
	}
}

// P14.2: any number may be filled in, as it is.
func TestFillAny(t *testing.T) {
	c := blank(t, 1, 1)
	for _, v := range []uint32{0, 1, 0x80000000, 0x00ffffff, math.MaxUint32, 0x01020304} {
		c.Fill(v, all())
		want(t, c, v)
	}
}

// P14.2: numbers stand where they are drawn, row by row of w.
func TestDraw(t *testing.T) {
	const a = 0xff000000
	four := []uint32{a | 1, a | 2, a | 3, a | 4}
	for i, x := range []struct {
		x, y, w, h int
		want       []uint32
	}{
		{0, 0, 2, 2, []uint32{a | 1, a | 2, 0, a | 3, a | 4, 0, 0, 0, 0}},
		{1, 1, 2, 2, []uint32{0, 0, 0, 0, a | 1, a | 2, 0, a | 3, a | 4}},
		{2, 2, 2, 2, []uint32{0, 0, 0, 0, 0, 0, 0, 0, a | 1}},
		{-1, -1, 2, 2, []uint32{a | 4, 0, 0, 0, 0, 0, 0, 0, 0}},
		{-1, 2, 2, 2, []uint32{0, 0, 0, 0, 0, 0, a | 2, 0, 0}},
		{2, -1, 2, 2, []uint32{0, 0, a | 3, 0, 0, 0, 0, 0, 0}},
		{0, 0, 4, 1, []uint32{a | 1, a | 2, a | 3, 0, 0, 0, 0, 0, 0}},
		{2, 0, 1, 4, []uint32{0, 0, a | 1, 0, 0, a | 2, 0, 0, a | 3}},
		{-3, 0, 4, 1, []uint32{a | 4, 0, 0, 0, 0, 0, 0, 0, 0}},
		{0, -3, 1, 4, []uint32{a | 4, 0, 0, 0, 0, 0, 0, 0, 0}},
		{0, 0, 1, 1, []uint32{a | 1, 0, 0, 0, 0, 0, 0, 0, 0}},
		{3, 0, 2, 2, make([]uint32, 9)},
		{-2, 0, 2, 2, make([]uint32, 9)},
		{0, 3, 2, 2, make([]uint32, 9)},
		{0, -2, 2, 2, make([]uint32, 9)},
	} {
		c := blank(t, 3, 3)
		c.Draw(x.x, x.y, x.w, x.h, four, all())
		if got := c.Pixels(); !slices.Equal(got, x.want) {
			t.Errorf("%d: %x", i, got)
		}
	}
}

// P14.2: each point becomes Over of it and the number, a half one and nought too.
func TestDrawOver(t *testing.T) {
	c := blank(t, 4, 1)
	c.Fill(0xff0000ff, all())
	c.Draw(0, 0, 4, 1, []uint32{0x80800000, 0, 0xff123456, 0x00000001}, all())
	want(t, c, 0xff80007f, 0xff0000ff, 0xff123456, 0xff0000ff)
	c.Draw(0, 0, 1, 1, []uint32{0x80800000}, all())
	want(t, c, pixel.Over(0xff80007f, 0x80800000), 0xff0000ff, 0xff123456, 0xff0000ff)
}

// P14.2: a number that is not there turns nothing; one too many is none.
func TestDrawShort(t *testing.T) {
	for n := range 8 {
		pixels := []uint32{1, 2, 3, 4, 5, 6, 7, 8}[:n]
		c := blank(t, 3, 3)
		c.Fill(0x80808000, all())
		c.Draw(1, 0, 2, 3, pixels, all())
		now := slices.Repeat([]uint32{0x80808000}, 9)
		for i, at := range []int{1, 2, 4, 5, 7, 8} {
			if i < n {
				now[at] += uint32(i + 1)
			}
		}
		want(t, c, now...)
	}
	c := blank(t, 1, 1)
	c.Fill(9, all())
	c.Draw(0, 0, 1, 1, nil, all())
	want(t, c, 9)
}

// P14.2: a point is turned once, however many of clip's it is in.
func TestDrawOnce(t *testing.T) {
	half := slices.Repeat([]uint32{0x80404040}, 6)
	for i, clip := range []list{
		{of(0, 0, 3, 2), of(0, 0, 3, 2)},
		{of(0, 0, 3, 2), of(1, 1, 1, 1), of(2, 0, 1, 2)},
		{of(1, 1, 1, 1), of(0, 0, 3, 1), of(0, 0, 1, 2), of(2, -9, 1, 99), of(-5, 0, 99, 1)},
		{of(0, 0, 2, 2), of(1, 0, 2, 2)},
		slices.Repeat(all(), 99),
		{of(math.MinInt, 0, math.MaxInt, 9), of(-edge, -edge, math.MaxInt, math.MaxInt), of(0, 0, math.MaxInt, math.MaxInt)},
	} {
		c := blank(t, 3, 2)
		c.Fill(0xff808080, all())
		c.Draw(0, 0, 3, 2, half, clip)
		if got := c.Pixels(); !slices.Equal(got, slices.Repeat([]uint32{pixel.Over(0xff808080, 0x80404040)}, 6)) {
			t.Errorf("%d: %x", i, got)
		}
	}
}

// P14.2: outside of clip nothing is turned, and what is within has its own number.
func TestDrawClip(t *testing.T) {
	for i, x := range []struct {
		clip list
		want []uint32
	}{
		{nil, []uint32{0, 0, 0, 0, 0, 0}},
		{list{}, []uint32{0, 0, 0, 0, 0, 0}},
		{list{of(0, 0, 0, 2), of(1, 1, -1, 1), {}}, []uint32{0, 0, 0, 0, 0, 0}},
		{list{of(1, 0, 1, 2)}, []uint32{0, 2, 0, 0, 5, 0}},
		{list{of(2, 1, 9, 9), of(-9, -9, 10, 10)}, []uint32{1, 0, 0, 0, 0, 6}},
		{list{of(0, 1, 3, 1)}, []uint32{0, 0, 0, 4, 5, 6}},
	} {
		c := blank(t, 3, 2)
		c.Draw(0, 0, 3, 2, []uint32{1, 2, 3, 4, 5, 6}, x.clip)
		if got := c.Pixels(); !slices.Equal(got, x.want) {
			t.Errorf("%d: %v", i, got)
		}
	}
}

// P14.2: nothing of a size or a place that is too small or too great.
func TestDrawWrong(t *testing.T) {
	white := slices.Repeat([]uint32{math.MaxUint32}, 9)
	c := blank(t, 3, 3)
	for _, n := range []int{math.MinInt, -1 << 32, -edge - 1, -edge, -1, 0, edge + 1, 1 << 32, 1<<32 + 1, math.MaxInt} {
		for _, x := range [][2]int{{n, 1}, {1, n}, {n, 3}, {3, n}, {n, n}, {n, edge}, {edge, n}} {
			c.Draw(0, 0, x[0], x[1], white, all())
			c.Draw(-1, -1, x[0], x[1], white, all())
		}
	}
	for _, n := range []int{math.MinInt, -1 << 32, -edge - 1, edge + 1, 1 << 32, math.MaxInt} {
		for _, x := range [][2]int{{n, 0}, {0, n}, {n, n}, {n, edge}, {edge, n}} {
			c.Draw(x[0], x[1], 3, 3, white, all())
			c.Draw(x[0], x[1], edge, edge, white, all())
		}
	}
	want(t, c, make([]uint32, 9)...)
}

// P14.2: the greatest sizes and places are taken.
func TestDrawGreat(t *testing.T) {
	c := blank(t, 3, 2)
	c.Draw(0, 0, edge, edge, []uint32{1, 2}, all())
	want(t, c, 1, 2, 0, 0, 0, 0)
	c.Draw(2-edge, 0, edge, 1, []uint32{9, 9}, all())
	c.Draw(edge, edge, edge, edge, []uint32{9, 9}, all())
	c.Draw(-edge, -edge, edge, edge, []uint32{9, 9}, all())
	want(t, c, 1, 2, 0, 0, 0, 0)
	long := make([]uint32, edge+2)
	long[edge-2], long[edge-1], long[edge], long[edge+1] = 0xff000003, 0xff000004, 0xff000005, 0xff000006
	c.Draw(2-edge, 0, edge, 2, long, all())
	want(t, c, 0xff000003, 0xff000004, 0, 0, 0, 0)
	c.Draw(2, 1-edge, 1, edge, long, all())
	want(t, c, 0xff000003, 0xff000004, 0xff000004, 0, 0, 0)
	c.Draw(0, 1, edge, 1, long[edge-1:], all())
	want(t, c, 0xff000003, 0xff000004, 0xff000004, 0xff000004, 0xff000005, 0xff000006)
}

// P14.1, P14.2: any fills and draws, held against a board.
func TestBoard(t *testing.T) {
	d := dice(14)
	for i := range 300 {
		w, h := 1+d.roll(9), 1+d.roll(9)
		if i%30 == 0 {
			w, h = most, most-d.roll(2)
		}
		c, b := blank(t, w, h), &board{w: w, h: h, points: make([]uint32, w*h)}
		for range 12 {
			clip := d.clip(w, h)
			if d.roll(3) == 0 {
				v := d.colours(1)[0]
				c.Fill(v, clip)
				b.fill(v, clip)
			} else {
				x, y, dw, dh := d.roll(2*w)-w, d.roll(2*h)-h, 1+d.roll(w+2), 1+d.roll(h+2)
				pixels := d.colours(max(0, dw*dh+d.roll(5)-3))
				c.Draw(x, y, dw, dh, pixels, clip)
				b.draw(x, y, dw, dh, pixels, clip)
			}
			want(t, c, b.points...)
		}
	}
}

// P14.2: a clip of very many rectangles, as far apart as they may be.
func TestManyClips(t *testing.T) {
	var chess list
	for i := range most * most {
		if x, y := i%most, i/most; (x+y)%2 == 0 {
			chess = append(chess, of(x, y, 1, 1))
		}
	}
	c := blank(t, most, most)
	c.Fill(0xff000000, chess)
	c.Draw(0, 0, most, most, slices.Repeat([]uint32{0x80000001}, most*most), append(chess, chess...))
	for i, v := range c.Pixels() {
		if x, y := i%most, i/most; (x+y)%2 == 0 && v != 0xff000001 || (x+y)%2 == 1 && v != 0 {
			t.Fatalf("%d, %d: %x", x, y, v)
		}
	}
}

// R3: lists that are handed in are as they were, their spare room too, and are not kept.
func TestHandedIn(t *testing.T) {
	clips := list{of(1, 0, 9, 9), of(-3, 0, 4, 1), of(0, 0, 1, 1), of(5, 5, 5, 5)}
	pixels := []uint32{1, 2, 3, 4, 5, 6}
	wasClips, wasPixels := slices.Clone(clips), slices.Clone(pixels)
	c := blank(t, 2, 2)
	c.Fill(0x100, clips[:2])
	c.Draw(0, 0, 2, 2, pixels[:3], clips[:3])
	if !slices.Equal(clips, wasClips) || !slices.Equal(pixels, wasPixels) {
		t.Error(clips, pixels)
	}
	clear(clips)
	clear(pixels)
	want(t, c, 0x101, 0x102, 0, 0x100)
}

// R3: what is answered is new memory, its spare room too.
func TestAnswered(t *testing.T) {
	c := blank(t, 2, 2)
	c.Fill(7, all())
	l, again := c.Pixels(), c.Pixels()
	l = l[:cap(l)]
	for i := range l {
		l[i] = 99
	}
	_ = append(c.Pixels(), 5)
	want(t, c, 7, 7, 7, 7)
	if !slices.Equal(again, []uint32{7, 7, 7, 7}) {
		t.Error(again)
	}
	c.Fill(8, all())
	if !slices.Equal(again, []uint32{7, 7, 7, 7}) {
		t.Error(again)
	}
}

// R4: two canvases have nothing in common.
func TestApart(t *testing.T) {
	a, b := blank(t, 2, 1), blank(t, 2, 1)
	a.Fill(1, all())
	b.Draw(1, 0, 1, 1, []uint32{2}, all())
	want(t, a, 1, 1)
	want(t, b, 0, 2)
}
