package pixel_test

import (
	"math"
	"testing"

	"tableau/api"
	"tableau/pixel"
)

// colours are numbers whose parts lie at the ends, beside them, in the middle, and apart from one another.
var colours = []uint32{
	0, 1, 0xff, 0x100, 0xff00, 0x10000, 0xff0000, 0x1000000, 0xff000000, 0xffffffff, 0xfffffffe, 0x7fffffff, 0x80000000, 0x80808080, 0x7f7f7f7f,
	0x01020304, 0x04030201, 0xff010203, 0x00ff0001, 0x80800000, 0xff0000ff, 0xfe7f8001, 0x01fe7f80, 0x12345678, 0xdeadbeef,
}

// outside are numbers that no part may be, with what they are cut to.
var outside = [][2]int{
	{math.MinInt, 0}, {math.MinInt + 1, 0}, {-1 << 62, 0}, {-1 << 32, 0}, {-1 << 31, 0}, {-256, 0}, {-255, 0}, {-128, 0}, {-2, 0}, {-1, 0},
	{256, 255}, {257, 255}, {511, 255}, {512, 255}, {1 << 16, 255}, {1 << 31, 255}, {1 << 32, 255}, {1<<32 + 7, 255}, {1 << 62, 255}, {math.MaxInt - 1, 255}, {math.MaxInt, 255},
}

// dice are numbers that look like any, the same ones at each run.
type dice uint64

// roll is any colour.
func (d *dice) roll() uint32 {
	*d = *d*6364136223846793005 + 1442695040888963407
	return uint32(*d >> 32)
}

// over wants a colour over another one to be this one.
func over(t *testing.T, under, over, want uint32) {
	t.Helper()
	if v := pixel.Over(under, over); v != want {
		t.Fatalf("%08x over %08x: %08x, not %08x", over, under, v, want)
	}
}

// P13.1: the highest eight bits, then eight by eight.
func TestParts(t *testing.T) {
	for _, x := range []struct {
		v          uint32
		a, r, g, b int
	}{
		{0, 0, 0, 0, 0},
		{0x01020304, 1, 2, 3, 4},
		{0xff000000, 255, 0, 0, 0},
		{0x00ff0000, 0, 255, 0, 0},
		{0x0000ff00, 0, 0, 255, 0},
		{0x000000ff, 0, 0, 0, 255},
		{0x80000000, 128, 0, 0, 0},
		{0xffffffff, 255, 255, 255, 255},
		{0xdeadbeef, 0xde, 0xad, 0xbe, 0xef},
	} {
		if a, r, g, b := pixel.Parts(x.v); a != x.a || r != x.r || g != x.g || b != x.b {
			t.Errorf("%08x: %d, %d, %d, %d", x.v, a, r, g, b)
		}
	}
}

// P13.1: Join is back, of each number that a part may be, at each place.
func TestJoin(t *testing.T) {
	if v := pixel.Join(1, 2, 3, 4); v != 0x01020304 {
		t.Errorf("%08x", v)
	}
	for n := range 256 {
		v := uint32(n)
		if pixel.Join(n, 0, 0, 0) != v<<24 || pixel.Join(0, n, 0, 0) != v<<16 || pixel.Join(0, 0, n, 0) != v<<8 || pixel.Join(0, 0, 0, n) != v {
			t.Error(n)
		}
	}
	d := dice(1)
	for i := range 20000 {
		v := d.roll()
		if i < len(colours) {
			v = colours[i]
		}
		if back := pixel.Join(pixel.Parts(v)); back != v {
			t.Fatalf("%08x: %08x", v, back)
		}
	}
}

// P13.1: what no part may be is cut, at each place, and spoils none beside it.
func TestJoinCut(t *testing.T) {
	for _, x := range outside {
		n, v := x[0], uint32(x[1])
		for i, got := range []uint32{pixel.Join(n, 1, 2, 3), pixel.Join(1, n, 2, 3), pixel.Join(1, 2, n, 3), pixel.Join(1, 2, 3, n)} {
			want := []uint32{v<<24 | 0x010203, 0x01000203 | v<<16, 0x01020003 | v<<8, 0x01020300 | v}[i]
			if got != want {
				t.Errorf("%d at %d: %08x, not %08x", n, i, got, want)
			}
		}
		if v := pixel.Join(n, n, n, n); v != uint32(x[1])*0x01010101 {
			t.Errorf("%d everywhere: %08x", n, v)
		}
	}
	if v := pixel.Join(-5, 256, math.MaxInt, math.MinInt); v != 0x00ffff00 {
		t.Errorf("%08x", v)
	}
}

// P13.1: the product and 127, divided by 255, rounded down: the greatest number whose product with 255 is not above it.
func TestScale(t *testing.T) {
	for x := range 256 {
		for y := range 256 {
			n := pixel.Scale(x, y)
			if sum := x*y + 127; n*255 > sum || (n+1)*255 <= sum {
				t.Fatal(x, y, n)
			}
		}
	}
	for _, x := range [][3]int{{1, 127, 0}, {1, 128, 1}, {2, 63, 0}, {2, 64, 1}, {255, 127, 127}, {128, 128, 64}, {254, 254, 253}, {127, 255, 127}} {
		if n := pixel.Scale(x[0], x[1]); n != x[2] {
			t.Error(x, n)
		}
	}
}

// P13.1: what is handed to Scale is cut, either number and both.
func TestScaleCut(t *testing.T) {
	for _, x := range outside {
		for y := range 256 {
			want := 0
			if x[1] == 255 {
				want = y
			}
			if a, b := pixel.Scale(x[0], y), pixel.Scale(y, x[0]); a != want || b != want {
				t.Fatal(x[0], y, a, b)
			}
		}
		for _, y := range outside {
			want := min(x[1], y[1])
			if n := pixel.Scale(x[0], y[0]); n != want {
				t.Fatal(x[0], y[0], n)
			}
		}
	}
}

// P13.1: the document's example, and some by hand.
func TestOver(t *testing.T) {
	over(t, 0xff0000ff, 0x80800000, 0xff80007f)
	over(t, 0x80808080, 0x80808080, 0xc0c0c0c0)
	over(t, 0x40302010, 0x80000000, 0xa0181008)
	over(t, 0, 0x80402010, 0x80402010)
	over(t, 0x00ff0000, 0x01000000, 0x01fe0000)
	over(t, 0xffffffff, 0xfe000000, 0xff010101)
}

// P13.1: a sum above 255 is 255, and spoils no part beside it.
func TestOverMost(t *testing.T) {
	over(t, 0xffffffff, 0x00ff0001, 0xffffffff)
	over(t, 0x00010000, 0x00ff0000, 0x00ff0000)
	over(t, 0x00000100, 0x0000ff00, 0x0000ff00)
	over(t, 0x00000001, 0x000000ff, 0x000000ff)
	over(t, 0x00fe0102, 0x00010203, 0x00ff0305)
	over(t, 0x00ff0102, 0x00010203, 0x00ff0305)
	over(t, 0x00ffffff, 0x80ffffff, 0x80ffffff)
}

// P13.1: every a over every part, against the words: over's and the share of under's, at most 255.
func TestOverEach(t *testing.T) {
	for a := range 256 {
		for n := range 256 {
			rest := (n*(255-a) + 127) / 255
			for _, m := range []int{0, 1, a, 127, 254, 255} {
				want := pixel.Join(min(a+rest, 255), min(m+rest, 255), m, min(255-m+rest, 255))
				over(t, pixel.Join(n, n, 0, n), pixel.Join(a, m, m, 255-m), want)
			}
		}
	}
}

// P13.1: each part is turned by its own part and over's a alone.
func TestOverAny(t *testing.T) {
	d := dice(2)
	for range 50000 {
		under, above := d.roll(), d.roll()
		var want uint32
		for _, shift := range []uint{24, 16, 8, 0} {
			share := (int(under>>shift&255)*(255-int(above>>24)) + 127) / 255
			want |= uint32(min(int(above>>shift&255)+share, 255)) << shift
		}
		over(t, under, above, want)
	}
}

// P13.2: what is over with a 255 is what is seen.
func TestOverFull(t *testing.T) {
	for _, under := range colours {
		for _, v := range colours {
			over(t, under, v|0xff000000, v|0xff000000)
		}
	}
}

// P13.2: over with all 0 nothing is turned, whichever part it is.
func TestOverNothing(t *testing.T) {
	for n := range uint32(256) {
		over(t, n*0x01010101, 0, n*0x01010101)
	}
	for _, v := range colours {
		over(t, v, 0, v)
	}
}

// P13.2: a over anything with a 255 is 255.
func TestOverSolid(t *testing.T) {
	for a := range 256 {
		for _, under := range colours {
			for _, v := range colours {
				above := uint32(a)<<24 | v&0xffffff
				if seen, _, _, _ := pixel.Parts(pixel.Over(under|0xff000000, above)); seen != 255 {
					t.Fatalf("%08x over %08x: a is %d", above, under|0xff000000, seen)
				}
			}
		}
	}
}

// P13.1: v of Argb, of Xrgb with a 255, of others 0.
func TestLoad(t *testing.T) {
	for _, v := range colours {
		if got := pixel.Load(v, api.Argb); got != v {
			t.Errorf("argb %08x: %08x", v, got)
		}
		if got := pixel.Load(v, api.Xrgb); got != v|0xff000000 {
			t.Errorf("xrgb %08x: %08x", v, got)
		}
		for _, format := range []int{math.MinInt, -1 << 32, -256, -2, -1, 2, 3, 255, 256, 257, 1 << 16, 1 << 31, 1 << 32, 1<<32 + 1, 1 << 62, math.MaxInt} {
			if got := pixel.Load(v, format); got != 0 {
				t.Errorf("format %d, %08x: %08x", format, v, got)
			}
		}
	}
}
