package desk_test

import (
	"math"
	"slices"
	"testing"

	"tableau/api"
	"tableau/desk"
)

// ticks ticks so often, and wants nobody to be late.
func (k *trial) ticks(n int) {
	k.Helper()
	for range n {
		if l := k.d.Tick(0); len(l) != 0 {
			k.Fatalf("late: %v", l)
		}
	}
}

// P26.5: who has not answered a ping for more than MaxLate ticks is late, at each tick from then on, and is not dropped.
func TestLate(t *testing.T) {
	k := begin(t, 3)
	k.ticks(5)
	k.d.Ping(3)
	k.ticks(1)
	k.d.Ping(1)
	k.ticks(2)
	for i, want := range [][]int{{3}, {1, 3}, {1, 3}} {
		if l := k.d.Tick(math.MinInt); !slices.Equal(l, want) {
			t.Fatal(i, l)
		}
	}
	k.hush()
	k.do(3, "display.sync", 1, 20)
	k.told(3, "callback 20 done 2", "display 1 delete_id 20")
	k.do(3, "wm_base.pong", 7, 1)
	if l := k.d.Tick(0); !slices.Equal(l, []int{1}) {
		t.Fatal(l)
	}
	// Who is pinged again waits anew.
	k.d.Ping(3)
	k.do(1, "wm_base.pong", 7, 2)
	k.ticks(3)
	if l := k.d.Tick(0); !slices.Equal(l, []int{3}) {
		t.Fatal(l)
	}
	k.d.Drop(3)
	k.ticks(9)
}

// P26.5: the list of those who are late is new memory (R3).
func TestLateIsNew(t *testing.T) {
	k := begin(t, 2)
	k.d.Ping(1)
	k.d.Ping(2)
	k.ticks(3)
	l := k.d.Tick(0)
	for i := range l[:cap(l)] {
		l[:cap(l)][i] = 9
	}
	if l := k.d.Tick(0); !slices.Equal(l, []int{1, 2}) {
		t.Error(l)
	}
}

// P26.5: the time is taken modulo 2^32, and is the time till the next tick.
func TestTime(t *testing.T) {
	k := begin(t, 1)
	k.window(1, 20, 1, 1)
	for _, x := range [][2]int{{0, 0}, {5, 5}, {-1, 4294967295}, {1 << 32, 0}, {1<<32 + 9, 9}, {math.MaxInt, 4294967295}, {math.MinInt, 0}, {math.MinInt + 3, 3}, {4294967295, 4294967295}} {
		k.do(1, "surface.frame", 20, 40)
		k.do(1, "surface.commit", 20)
		k.hush()
		k.d.Tick(x[0])
		k.told(1, "callback 40 done "+num(x[1]), "display 1 delete_id 40")
	}
}

// P26.5: callbacks are done at the first tick at which their surface is seen, once, surface by surface from the lowest one on, in the order in which they came.
func TestFrames(t *testing.T) {
	k := begin(t, 2)
	k.window(1, 20, 4, 4)
	k.sub(1, 30, 20, 1, 1)
	k.window(2, 20, 4, 4)
	k.hush()
	k.do(1, "surface.frame", 20, 45)
	k.do(1, "surface.frame", 20, 44)
	k.do(1, "surface.frame", 30, 43)
	k.do(2, "surface.frame", 20, 45)
	k.d.Tick(1) // none is committed
	k.hush()
	k.do(1, "surface.commit", 20)
	k.do(1, "surface.frame", 20, 46)
	k.do(1, "surface.commit", 20)
	k.do(1, "surface.commit", 30) // it waits for the parent
	k.do(2, "surface.commit", 20)
	k.quiet()
	k.d.Tick(2)
	k.told(1, "callback 45 done 2", "display 1 delete_id 45", "callback 44 done 2", "display 1 delete_id 44", "callback 46 done 2", "display 1 delete_id 46")
	k.told(2, "callback 45 done 2", "display 1 delete_id 45")
	if k.d.Face(1, 45) != 0 || k.d.Face(1, 43) != api.Callback {
		t.Error("45, 43")
	}
	k.d.Tick(3)
	k.quiet()
	k.do(1, "surface.frame", 20, 45)
	k.do(1, "surface.commit", 20)
	k.d.Tick(4)
	k.told(1, "callback 45 done 4", "display 1 delete_id 45", "callback 43 done 4", "display 1 delete_id 43")
	k.d.Tick(5)
	k.quiet()
	// What is not seen waits till it is.
	k.do(1, "surface.frame", 20, 47)
	k.do(1, "surface.attach", 20, 0, 0, 0)
	k.do(1, "surface.commit", 20)
	k.hush()
	k.d.Tick(6)
	k.quiet()
	k.do(1, "surface.commit", 20)
	k.do(1, "xdg_surface.ack_configure", 21, k.d.Serial())
	k.do(1, "surface.attach", 20, 19, 0, 0)
	k.do(1, "surface.commit", 20)
	k.hush()
	k.d.Tick(7)
	k.told(1, "callback 47 done 7", "display 1 delete_id 47")
}

// P26.5: done comes ahead of the pointer's notes, and these ahead of the keys'.
func TestOrderOfTick(t *testing.T) {
	k := begin(t, 1)
	k.do(1, "seat.get_pointer", 6, 50)
	k.do(1, "seat.get_keyboard", 6, 51)
	k.window(1, 20, 1, 1)
	k.do(1, "surface.frame", 20, 40)
	k.do(1, "surface.commit", 20)
	k.hush()
	k.d.Tick(8)
	k.told(1, "callback 40 done 8", "display 1 delete_id 40", "pointer 50 enter 2 20 0 0", "keyboard 51 enter 3 20")
	k.d.Tick(9)
	k.quiet()
	k.do(1, "surface.attach", 20, 0, 0, 0)
	k.do(1, "surface.commit", 20)
	k.hush()
	k.d.Tick(10)
	k.told(1, "pointer 50 leave 4 20", "keyboard 51 leave 5 20")
}

// P26.5: a callback of a surface that is destroyed is never done, and its number does not come again.
func TestFrameOfNothing(t *testing.T) {
	k := begin(t, 1)
	k.window(1, 20, 1, 1)
	k.sub(1, 30, 20, 1, 1)
	k.do(1, "surface.frame", 30, 40)
	k.do(1, "surface.commit", 30)
	k.do(1, "surface.commit", 20)
	k.do(1, "surface.destroy", 30)
	k.d.Tick(0)
	k.hush()
	if k.d.Face(1, 40) != api.Callback {
		t.Error(k.d.Face(1, 40))
	}
	k.wrong(1, raw(20, "surface.frame", 40), 1, api.ErrObject)
	k.wrong(1, api.Raw{Object: 40}, 40, api.ErrMethod)
}

// P26.5: the screen is turned by ticks alone; it has the memories as they are at the tick.
func TestScreen(t *testing.T) {
	k := begin(t, 1)
	write := func(at int, b ...byte) {
		t.Helper()
		if e := k.d.Write(1, 1, at, b); e != nil {
			t.Fatal(e)
		}
	}
	point := func(x, y int, want uint32) {
		t.Helper()
		if v := k.d.Screen()[16*y+x]; v != want {
			t.Fatalf("%d %d: %x, not %x", x, y, v, want)
		}
	}
	write(0, 0xff, 0, 0, 0xff, 0, 0, 0x80, 0x80)
	k.do(1, "pool.create_buffer", 8, 19, 0, 2, 1, 8, api.Argb)
	k.do(1, "compositor.create_surface", 3, 20)
	k.toplevel(1, 20)
	k.do(1, "surface.attach", 20, 19, 0, 0)
	k.do(1, "surface.commit", 20)
	point(0, 0, desk.Back)
	k.d.Tick(0)
	point(0, 0, 0xff0000ff)
	point(1, 0, 0xff881018) // half a red over Back
	point(2, 0, desk.Back)
	point(0, 1, desk.Back)
	write(0, 1, 2, 3, 0xff)
	point(0, 0, 0xff0000ff)
	k.d.Tick(0)
	point(0, 0, 0xff030201)
	// A memory that is cut has 0 there: nothing of Argb.
	if e := k.d.Memory(1, 1, 4); e != nil {
		t.Fatal(e)
	}
	k.d.Tick(0)
	point(0, 0, 0xff030201)
	point(1, 0, desk.Back)
	// Its bytes do not come back.
	k.d.Memory(1, 1, 256)
	k.d.Tick(0)
	point(1, 0, desk.Back)
	k.do(1, "toplevel.destroy", 22)
	point(0, 0, 0xff030201)
	k.d.Tick(0)
	point(0, 0, desk.Back)
}

// P26.5: each client's buffers are of its own memories, by one key.
func TestScreenOfTwo(t *testing.T) {
	k := begin(t, 2)
	for c := 1; c <= 2; c++ {
		k.d.Write(c, 1, 0, []byte{byte(c), 0, 0, 0})
		k.window(c, 20, 1, 1)
	}
	k.d.Tick(0)
	s := k.d.Screen()
	if s[0] != 0xff000001 || s[2*16+3] != 0xff000002 {
		t.Errorf("%x %x", s[0], s[2*16+3])
	}
}

// P26.5: one buffer of several surfaces is seen at each; one that is destroyed is seen as long as it is held, also when its pool is gone.
func TestScreenShared(t *testing.T) {
	k := begin(t, 1)
	k.d.Write(1, 1, 0, []byte{7, 7, 7, 7})
	k.window(1, 20, 1, 1)
	k.sub(1, 30, 20, 1, 1)
	k.do(1, "subsurface.set_position", 31, 5, 5)
	k.do(1, "surface.attach", 30, 19, 0, 0)
	k.do(1, "surface.commit", 30)
	k.do(1, "surface.commit", 20)
	k.do(1, "buffer.destroy", 19)
	k.do(1, "pool.destroy", 8)
	for _, want := range [][2]uint32{{0xff070707, 0xff070707}, {0xff080808, 0xff080808}} {
		k.d.Tick(0)
		s := k.d.Screen()
		if s[0] != want[0] || s[5*16+5] != want[1] {
			t.Errorf("%x %x", s[0], s[5*16+5])
		}
		k.d.Write(1, 1, 0, []byte{8, 8, 8, 8})
	}
}

// P26.5: Views and Screen are new memory: writing into them, and behind them, turns nothing (R3).
func TestScreenIsNew(t *testing.T) {
	k := begin(t, 1)
	k.window(1, 20, 2, 2)
	k.d.Tick(0)
	want, wantViews := k.d.Screen(), k.d.Views()
	s, l := k.d.Screen(), k.d.Views()
	for i := range s[:cap(s)] {
		s[:cap(s)][i] = 1
	}
	for i := range l[:cap(l)] {
		l[:cap(l)][i] = api.View{Surface: 1}
	}
	if !slices.Equal(k.d.Screen(), want) || !slices.Equal(k.d.Views(), wantViews) {
		t.Error("they are kept")
	}
	k.d.Tick(0)
	if !slices.Equal(k.d.Screen(), want) {
		t.Error("the screen is painted over what was handed out")
	}
}

// P26.5: what is off the screen is seen, and paints nothing.
func TestOffScreen(t *testing.T) {
	k := begin(t, 1)
	k.window(1, 20, 1, 1)
	k.sub(1, 30, 20, 2, 2)
	k.d.Write(1, 1, 0, []byte{1, 1, 1, 1, 2, 2, 2, 2, 3, 3, 3, 3, 4, 4, 4, 4})
	for _, at := range [][2]int{{-1, -1}, {15, 11}, {16, 0}, {0, 12}, {-2, 0}, {1 << 24, 1 << 24}, {-1 << 24, 3}} {
		k.do(1, "subsurface.set_position", 31, at[0], at[1])
		k.do(1, "surface.commit", 20)
		k.sees(view(1020, 1, 0, 0, 1, 1), view(1030, 2, at[0], at[1], 2, 2))
		k.d.Tick(0)
		for i, v := range k.d.Screen() {
			x, y := i%16, i/16
			want := uint32(desk.Back)
			if x == 0 && y == 0 {
				want = 0xff010101
			}
			if dx, dy := x-at[0], y-at[1]; dx >= 0 && dx < 2 && dy >= 0 && dy < 2 {
				want = 0xff000000 + 0x010101*uint32(1+2*dy+dx)
			}
			if v != want {
				t.Fatalf("%v: %d %d: %x, not %x", at, x, y, v, want)
			}
		}
	}
}
