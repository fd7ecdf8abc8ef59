package paint_test

import (
	"math"
	"math/rand"
	"reflect"
	"slices"
	"testing"

	"tableau/api"
	"tableau/canvas"
	"tableau/memory"
	"tableau/paint"
	"tableau/pixel"
	"tableau/pool"
)

// Limits, spelt without the package.
const (
	edge = 16777216
	most = 65536
	side = 48
)

type (
	images = []paint.Image
	views  = []api.View
)

// far are numbers at the ends of what a number may be, and where parts of it end.
var far = []int{math.MinInt, math.MinInt + 1, -1 << 32, -1 << 31, -edge - 1, -edge, 1 - edge, -1, 0, 1, edge - 1, edge, edge + 1, 1 << 31, 1 << 32, 1<<32 + 1, 1 << 62, math.MaxInt - 1, math.MaxInt}

// may wants calls to answer nil.
func may(t *testing.T, errs ...error) {
	t.Helper()
	for i, e := range errs {
		if e != nil {
			t.Fatalf("%d: %v", i, e)
		}
	}
}

// filled is memories of which the key has these bytes.
func filled(t *testing.T, key int, b []byte) *memory.Memory {
	t.Helper()
	m := memory.New()
	may(t, m.Set(key, len(b)), m.Write(key, 0, b))
	return m
}

// counted are n bytes that tell their places.
func counted(n int) []byte {
	b := make([]byte, n)
	for i := range b {
		b[i] = byte(i*7 + i/251)
	}
	return b
}

// blank is a canvas that may be.
func blank(t *testing.T, w, h int) *canvas.Canvas {
	t.Helper()
	c, err := canvas.New(w, h)
	may(t, err)
	return c
}

// is wants an image to be this one; nil and no points are one.
func is(t *testing.T, got paint.Image, buffer, w, h int, pixels ...uint32) {
	t.Helper()
	if got.Buffer != buffer || got.W != w || got.H != h || !slices.Equal(got.Pixels, pixels) {
		t.Fatalf("an image of %d, %d by %d: %x, not of %d, %d by %d: %x", got.Buffer, got.W, got.H, got.Pixels, buffer, w, h, pixels)
	}
}

// shows wants a canvas to have these points.
func shows(t *testing.T, c *canvas.Canvas, want ...uint32) {
	t.Helper()
	if got := c.Pixels(); !slices.Equal(got, want) {
		t.Fatalf("%x, not %x", got, want)
	}
}

// plain are a buffer's points by the document's words, of a memory with these bytes.
func plain(b pool.Info, bytes []byte) []uint32 {
	var l []uint32
	for y := range b.H {
		for x := range b.W {
			var v uint32
			for i := range 4 {
				if at := b.Offset + b.Stride*y + 4*x + i; at < len(bytes) {
					v += uint32(bytes[at]) << (8 * i)
				}
			}
			if b.Format == 1 {
				v |= 0xff000000
			}
			l = append(l, v)
		}
	}
	return l
}

// P23.1: row by row, each from the left; what stands ahead, between the rows and behind is left out.
func TestLoad(t *testing.T) {
	m := filled(t, 3, []byte{9, 9, 9, 9, 9, 1, 2, 3, 4, 5, 6, 7, 8, 9, 9, 9, 0x11, 0x12, 0x13, 0x14, 0x15, 0x16, 0x17, 0x18, 9, 9})
	b := pool.Info{Key: 3, Offset: 5, W: 2, H: 2, Stride: 11}
	is(t, paint.Load(7, b, m), 7, 2, 2, 0x04030201, 0x08070605, 0x14131211, 0x18171615)
	b.Format = 1
	is(t, paint.Load(7, b, m), 7, 2, 2, 0xff030201, 0xff070605, 0xff131211, 0xff171615)
	is(t, paint.Load(7, pool.Info{Key: 3, Offset: 5, W: 1, H: 2, Stride: 11}, m), 7, 1, 2, 0x04030201, 0x14131211)
	is(t, paint.Load(7, pool.Info{Key: 3, Offset: 5, W: 2, H: 1, Stride: 8}, m), 7, 2, 1, 0x04030201, 0x08070605)
}

// P23.1: a buffer's number may be any, and is told also where there is nothing.
func TestLoadID(t *testing.T) {
	m := filled(t, 1, []byte{1, 2, 3, 4})
	for _, id := range far {
		is(t, paint.Load(id, pool.Info{Key: 1, W: 1, H: 1, Stride: 4}, m), id, 1, 1, 0x04030201)
		is(t, paint.Load(id, pool.Info{Key: 1, W: 1, H: 1, Stride: 3}, m), id, 0, 0)
		is(t, paint.Load(id, pool.Info{Key: 1, W: 1, H: 1, Stride: 4}, nil), id, 0, 0)
	}
}

// P23.1: bytes that the memory has not, or no more, count as 0, be it cut within a point; no memory at all is one of noughts.
func TestLoadShort(t *testing.T) {
	m := filled(t, 1, counted(12))
	b := pool.Info{Key: 1, W: 2, H: 2, Stride: 8}
	for size := 20; size >= 0; size-- {
		may(t, m.Set(1, 0), m.Set(1, size))
		bytes := counted(size)
		may(t, m.Write(1, 0, bytes))
		is(t, paint.Load(5, b, m), 5, 2, 2, plain(b, bytes)...)
	}
	for _, key := range append([]int{2, 255, 256}, far...) {
		if key != 1 {
			is(t, paint.Load(5, pool.Info{Key: key, W: 2, H: 1, Stride: 8}, m), 5, 2, 1, 0, 0)
			is(t, paint.Load(5, pool.Info{Key: key, W: 2, H: 1, Stride: 8, Format: 1}, m), 5, 2, 1, 0xff000000, 0xff000000)
			is(t, paint.Load(5, pool.Info{Key: key, W: 2, H: 1, Stride: 8, Format: 1}, memory.New()), 5, 2, 1, 0xff000000, 0xff000000)
		}
	}
}

// P23.1: the greatest that there may be, to the last byte of the greatest pool.
func TestLoadGreatest(t *testing.T) {
	bytes := counted(most)
	m := filled(t, 255, bytes)
	for _, b := range []pool.Info{
		{W: 1, H: most / 4, Stride: 4},
		{W: most / 4, H: 1, Stride: most},
		{W: 128, H: 128, Stride: 512},
		{W: 1, H: 1, Stride: most},
		{W: 1, H: 1, Stride: 4, Offset: most - 4},
		{W: 1, H: 1, Stride: 5, Offset: most - 5},
		{W: 3, H: 2, Stride: 13, Offset: most - 26},
		{W: 1, H: 9362, Stride: 7, Offset: 2},
	} {
		b.Key = 255
		is(t, paint.Load(1, b, m), 1, b.W, b.H, plain(b, bytes)...)
		b.Format = 1
		is(t, paint.Load(1, b, m), 1, b.W, b.H, plain(b, bytes)...)
	}
}

// P23.1: of a buffer that has no room in the greatest pool there is nothing, however great the memory is.
func TestLoadWrong(t *testing.T) {
	m := filled(t, 1, counted(most))
	none := func(b pool.Info) {
		t.Helper()
		b.Key = 1
		is(t, paint.Load(4, b, m), 4, 0, 0)
	}
	none(pool.Info{})
	for _, b := range []pool.Info{
		{W: 1, H: most/4 + 1, Stride: 4},
		{W: most/4 + 1, H: 1, Stride: most},
		{W: most/4 + 1, H: 1, Stride: most + 4},
		{W: 128, H: 128, Stride: 513},
		{W: 1, H: 1, Stride: most + 1},
		{W: 1, H: 1, Stride: 4, Offset: most - 3},
		{W: 1, H: 2, Stride: 5, Offset: most - 9}, // its bytes are there, but not those behind its last row
		{W: 2, H: 2, Stride: 7},
		{W: 1 << 62, H: 1, Stride: 4},
		{W: 1, H: 1 << 62, Stride: 4},
		{W: 1, H: 1 << 32, Stride: 1 << 32},
		{W: 1<<62 + 1, H: 1, Stride: 4},
		{W: -1, H: -1, Stride: -4},
		{W: 1, H: 1, Stride: math.MaxInt, Offset: math.MaxInt},
	} {
		none(b)
	}
	for _, n := range far {
		if n != 0 && n != 1 {
			none(pool.Info{W: 1, H: 1, Stride: 4, Format: n})
		}
		if n < 4 || n > most {
			none(pool.Info{W: 1, H: 1, Stride: n})
		}
		if n != 1 {
			none(pool.Info{W: n, H: 1, Stride: 4})
			none(pool.Info{W: 1, H: n, Stride: most})
		}
		if n < 0 || n > 1 {
			none(pool.Info{W: 1, H: 1, Stride: 4, Offset: n})
		}
	}
	none(pool.Info{W: 1, H: 1, Stride: 4, Format: 2})
}

// P23.1: any buffers, held against the document's words.
func TestLoadAny(t *testing.T) {
	r := rand.New(rand.NewSource(23))
	full := counted(most)
	for range 3000 {
		bytes := full[:r.Intn(400)]
		m := filled(t, 9, bytes)
		b := pool.Info{Key: 9, Offset: r.Intn(50), W: r.Intn(7) - 1, H: r.Intn(7) - 1, Format: r.Intn(3)}
		b.Stride = 4*b.W + r.Intn(9) - 2
		if b.W < 1 || b.H < 1 || b.Stride < 4*b.W || b.Format == 2 {
			is(t, paint.Load(2, b, m), 2, 0, 0)
			continue
		}
		is(t, paint.Load(2, b, m), 2, b.W, b.H, plain(b, bytes)...)
	}
}

// P23.1, R3, R4: an image is of the memory as it is then: neither turns the other one later, nor does an image another one.
func TestLoadNow(t *testing.T) {
	m := filled(t, 1, []byte{1, 2, 3, 4, 5, 6, 7, 8})
	b := pool.Info{Key: 1, W: 2, H: 1, Stride: 8}
	was, other := paint.Load(3, b, m), paint.Load(3, b, m)
	may(t, m.Write(1, 0, []byte{0xaa}))
	is(t, was, 3, 2, 1, 0x04030201, 0x08070605)
	is(t, paint.Load(3, b, m), 3, 2, 1, 0x040302aa, 0x08070605)
	was.Pixels[1] = 77
	is(t, other, 3, 2, 1, 0x04030201, 0x08070605)
	is(t, paint.Load(3, b, m), 3, 2, 1, 0x040302aa, 0x08070605)
	if got, ok := m.Read(1, 0, 8); !ok || m.Size(1) != 8 || !slices.Equal(got, []byte{0xaa, 2, 3, 4, 5, 6, 7, 8}) {
		t.Error("the memory was turned:", got)
	}
}

// found wants a buffer's image to be this one.
func found(t *testing.T, l images, buffer int, want paint.Image) {
	t.Helper()
	got, ok := paint.Find(l, buffer)
	if !ok {
		t.Fatal("no image of", buffer)
	}
	is(t, got, want.Buffer, want.W, want.H, want.Pixels...)
}

// none wants a buffer to have no image.
func none(t *testing.T, l images, buffer int) {
	t.Helper()
	got, ok := paint.Find(l, buffer)
	if ok {
		t.Fatal("an image of", buffer)
	}
	is(t, got, 0, 0, 0)
}

// P23.1: the first image of a buffer, whatever it has; a number that no image has is none's, 0 too.
func TestFind(t *testing.T) {
	l := images{{Buffer: 3, W: 2, H: 1, Pixels: []uint32{1, 2}}, {Buffer: 1}, {Buffer: 3, W: 9, H: 9, Pixels: []uint32{3}}, {Buffer: -2, W: -7, Pixels: []uint32{4}}, {Buffer: 1, W: 5, Pixels: []uint32{5}}}
	found(t, l, 3, l[0])
	found(t, l, 1, l[1])
	found(t, l, -2, l[3])
	for _, id := range []int{0, 2, 4, 9, -1, -3} {
		none(t, l, id)
	}
	for _, id := range far {
		none(t, nil, id)
		none(t, images{{Buffer: id + 1, W: id, H: id, Pixels: []uint32{1}}}, id)
		x := paint.Image{Buffer: id, W: id, H: -id, Pixels: []uint32{8, 9}}
		found(t, images{{Buffer: id - 1}, x, {Buffer: id, W: 4}}, id, x)
	}
}

// P23.1, R3: an image's points are in memory of their own, spare room too; the list is as it was.
func TestFindMemory(t *testing.T) {
	points := []uint32{1, 2, 3, 4, 5}
	l := images{{Buffer: 6, W: 1, H: 2, Pixels: points[:2]}, {Buffer: 7, Pixels: points[4:4]}}
	got, _ := paint.Find(l, 6)
	other, _ := paint.Find(l, 6)
	empty, _ := paint.Find(l, 7)
	for _, p := range [][]uint32{got.Pixels, empty.Pixels} {
		p = p[:cap(p)]
		for i := range p {
			p[i] = 99
		}
	}
	is(t, other, 6, 1, 2, 1, 2)
	found(t, l, 6, paint.Image{Buffer: 6, W: 1, H: 2, Pixels: []uint32{1, 2}})
	if !slices.Equal(points, []uint32{1, 2, 3, 4, 5}) || len(l) != 2 || l[0].Buffer != 6 || l[1].Buffer != 7 {
		t.Error("the list was turned:", points, l)
	}
	points[0] = 50
	is(t, other, 6, 1, 2, 1, 2)
}

// P23.2: the chapter's example: with no view each point is back, whatever was there, and however much of it would be seen through.
func TestBack(t *testing.T) {
	for _, x := range [][2]int{{1, 1}, {1, side}, {side, 1}, {side, side}, {5, 3}} {
		c := blank(t, x[0], x[1])
		for _, back := range []uint32{0xff102030, 0, 0x80402010, 5, 0xffffffff} {
			paint.All(c, back, nil, images{{Buffer: 0, W: 2, H: 2, Pixels: []uint32{1, 2, 3, 4}}})
			shows(t, c, slices.Repeat([]uint32{back}, x[0]*x[1])...)
		}
	}
}

// P23.2: what is seen is of the image's size, at the view's place; the view's own size, and its surface, say nothing.
func TestAll(t *testing.T) {
	c := blank(t, 3, 3)
	l := images{{Buffer: 8, W: 2, H: 2, Pixels: []uint32{0xff000001, 0xff000002, 0xff000003, 0xff000004}}}
	paint.All(c, 0xff000000, views{{Surface: 1, Buffer: 8, X: 1, Y: 1, W: 1, H: 1}}, l)
	shows(t, c, 0xff000000, 0xff000000, 0xff000000, 0xff000000, 0xff000001, 0xff000002, 0xff000000, 0xff000003, 0xff000004)
	paint.All(c, 9, views{{Surface: 8, Buffer: 8}}, l)
	shows(t, c, 0xff000001, 0xff000002, 9, 0xff000003, 0xff000004, 9, 9, 9, 9)
	paint.All(c, 9, views{{Buffer: 8, X: -1, Y: 2, W: 50, H: 50}}, l)
	shows(t, c, 9, 9, 9, 9, 9, 9, 0xff000002, 9, 9)
	paint.All(c, 9, views{{Buffer: 8, X: 2, Y: -1, W: -5, H: -5}}, l)
	shows(t, c, 9, 9, 0xff000003, 9, 9, 9, 9, 9, 9)
}

// P23.2: from the first view on, each over those ahead of it; a buffer may be seen twice.
func TestOrder(t *testing.T) {
	c := blank(t, 1, 1)
	l := images{
		{Buffer: 1, W: 1, H: 1, Pixels: []uint32{0xff0000ff}},
		{Buffer: 2, W: 1, H: 1, Pixels: []uint32{0x80800000}},
		{Buffer: 3, W: 1, H: 1, Pixels: []uint32{0}},
	}
	for _, x := range []struct {
		of   []int
		want uint32
	}{
		{nil, 0xff00ff00},
		{[]int{1}, 0xff0000ff},
		{[]int{1, 2}, 0xff80007f},
		{[]int{2, 1}, 0xff0000ff},
		{[]int{2}, 0xff807f00},
		{[]int{2, 2}, 0xffc03f00},
		{[]int{3}, 0xff00ff00},
		{[]int{1, 3, 2, 3}, 0xff80007f},
	} {
		var seen views
		for _, b := range x.of {
			seen = append(seen, api.View{Buffer: b})
		}
		paint.All(c, 0xff00ff00, seen, l)
		shows(t, c, x.want)
	}
}

// P23.2: an image is the first one of its buffer, even if nothing is drawn of that; who has none is not seen, and those behind it are.
func TestImages(t *testing.T) {
	c := blank(t, 2, 1)
	l := images{
		{Buffer: 1, W: 1, H: 1, Pixels: []uint32{0xff000001}},
		{Buffer: 1, W: 2, H: 1, Pixels: []uint32{0xff000011, 0xff000012}},
		{Buffer: 2},
		{Buffer: 2, W: 2, H: 1, Pixels: []uint32{0xff000021, 0xff000022}},
	}
	const back = 0xff0000ff
	paint.All(c, back, views{{Buffer: 1}}, l)
	shows(t, c, 0xff000001, back)
	paint.All(c, back, views{{Buffer: 2, W: 2, H: 1}}, l)
	shows(t, c, back, back)
	for _, id := range far {
		if id == 1 {
			continue
		}
		paint.All(c, back, views{{Surface: 1, Buffer: id, W: 2, H: 1}, {Buffer: 1, X: 1}}, l)
		shows(t, c, back, 0xff000001)
		paint.All(c, back, views{{Buffer: id}}, images{l[0], {Buffer: id, W: 2, H: 1, Pixels: []uint32{0xff000031, 0xff000032}}})
		shows(t, c, 0xff000031, 0xff000032)
		paint.All(c, back, views{{Buffer: id}}, nil)
		shows(t, c, back, back)
	}
}

// P23.2: an image may be of any size, with more points than that, or fewer: one that is not there turns nothing.
func TestSizes(t *testing.T) {
	c := blank(t, 2, 2)
	const back = 0xff0000ff
	put := func(x, y, w, h int, pixels ...uint32) {
		paint.All(c, back, views{{Buffer: 4, X: x, Y: y}}, images{{Buffer: 4, W: w, H: h, Pixels: pixels}})
	}
	put(0, 0, 2, 2, 0xff000001, 0xff000002, 0xff000003)
	shows(t, c, 0xff000001, 0xff000002, 0xff000003, back)
	put(0, 0, 1, 1, 0xff000001, 0xff000002, 0xff000003)
	shows(t, c, 0xff000001, back, back, back)
	put(-1, -1, 2, 2, 1, 2, 3, 0xff000004)
	shows(t, c, 0xff000004, back, back, back)
	put(0, 0, edge, edge, 0xff000001, 0xff000002)
	shows(t, c, 0xff000001, 0xff000002, back, back)
	put(0, -edge, 1, edge, 0xff000001)
	shows(t, c, back, back, back, back)
	for _, n := range far {
		if n < 1 || n > edge {
			put(0, 0, n, 1, 0xff000001)
			shows(t, c, back, back, back, back)
			put(0, 0, 1, n, 0xff000001)
			shows(t, c, back, back, back, back)
		}
		if n != 0 && n != 1 {
			put(n, 0, 1, 1, 0xff000001)
			shows(t, c, back, back, back, back)
			put(0, n, 1, 1, 0xff000001)
			shows(t, c, back, back, back, back)
		}
		put(n, n, n, n)
		shows(t, c, back, back, back, back)
	}
}

// number is mostly a small one.
func number(r *rand.Rand) int {
	if r.Intn(10) == 0 {
		return far[r.Intn(len(far))]
	}
	return r.Intn(14) - 4
}

// colours are n of any, many of which are nought, or have an a of 255.
func colours(r *rand.Rand, n int) []uint32 {
	l := make([]uint32, n)
	for i := range l {
		l[i] = r.Uint32()
		switch r.Intn(3) {
		case 0:
			l[i] |= 0xff000000
		case 1:
			l[i] &= 0x3f3f3f3f
		}
	}
	return l
}

// fold is a point by the document's words: from back on, what the views that have it there have, one over the other one.
func fold(x, y int, back uint32, seen views, l images) uint32 {
	v := back
	for _, s := range seen {
		i := slices.IndexFunc(l, func(image paint.Image) bool { return image.Buffer == s.Buffer })
		if i < 0 || s.X > x || s.Y > y || s.X < -edge || s.Y < -edge {
			continue
		}
		column, row := x-s.X, y-s.Y
		if w, h := l[i].W, l[i].H; column >= w || row >= h || w > edge || h > edge {
			continue
		}
		if at := row*l[i].W + column; at < len(l[i].Pixels) {
			v = pixel.Over(v, l[i].Pixels[at])
		}
	}
	return v
}

// P23.2, P23.3: any views of any images, painted again and again on one canvas, point by point.
func TestFold(t *testing.T) {
	r := rand.New(rand.NewSource(2300))
	for range 300 {
		w, h := 1+r.Intn(9), 1+r.Intn(9)
		c := blank(t, w, h)
		for range 5 {
			var l images
			for range r.Intn(6) {
				l = append(l, paint.Image{Buffer: r.Intn(5), W: number(r), H: number(r), Pixels: colours(r, r.Intn(60))})
			}
			var seen views
			for range r.Intn(8) {
				seen = append(seen, api.View{Surface: r.Intn(5), Buffer: r.Intn(5), X: number(r), Y: number(r), W: number(r), H: number(r)})
			}
			back := colours(r, 1)[0]
			paint.All(c, back, seen, l)
			var want []uint32
			for i := range w * h {
				want = append(want, fold(i%w, i/w, back, seen, l))
			}
			shows(t, c, want...)
		}
	}
}

// P23.1, P23.2: what is loaded is what is seen.
func TestLoadAll(t *testing.T) {
	m := filled(t, 2, counted(40))
	a, b := pool.Info{Key: 2, Offset: 1, W: 2, H: 2, Stride: 9, Format: 1}, pool.Info{Key: 2, Offset: 20, W: 1, H: 3, Stride: 4, Format: 1}
	x, y := plain(a, counted(40)), plain(b, counted(40))
	c := blank(t, 3, 3)
	paint.All(c, 6, views{{Buffer: 10}, {Buffer: 20, X: 1}, {Buffer: 30}}, images{paint.Load(10, a, m), paint.Load(20, b, m), paint.Load(30, a, nil)})
	shows(t, c, x[0], y[0], 6, x[2], y[1], 6, 6, y[2], 6)
}

// P23.2, R3, R4: the lists are as they were, and nothing is kept of them; one canvas says nothing of another one.
func TestAllKeeps(t *testing.T) {
	points := []uint32{0xff000001, 0x80000002, 7, 8}
	l := images{{Buffer: 1, W: 2, H: 1, Pixels: points[:2]}, {Buffer: 1, W: 1}}
	seen := views{{Surface: 4, Buffer: 1, X: 0, Y: 1, W: 3, H: 4}, {Buffer: 9}}
	a, b := blank(t, 2, 2), blank(t, 2, 2)
	paint.All(a, 0xff000000, seen, l)
	was := a.Pixels()
	if !slices.Equal(seen, views{{Surface: 4, Buffer: 1, X: 0, Y: 1, W: 3, H: 4}, {Buffer: 9}}) || !reflect.DeepEqual(l, images{{Buffer: 1, W: 2, H: 1, Pixels: []uint32{0xff000001, 0x80000002}}, {Buffer: 1, W: 1}}) || !slices.Equal(points, []uint32{0xff000001, 0x80000002, 7, 8}) {
		t.Fatal("a list was turned:", seen, l, points)
	}
	shows(t, b, 0, 0, 0, 0)
	paint.All(b, 0xff000000, seen, l)
	shows(t, b, was...)
	points[0], seen[0].X, l[0].W = 99, 1, 1
	shows(t, a, was...)
	shows(t, b, was...)
	paint.All(a, 3, nil, nil)
	shows(t, a, 3, 3, 3, 3)
	shows(t, b, was...)
}
