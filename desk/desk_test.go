package desk_test

import (
	"fmt"
	"math"
	"slices"
	"testing"

	"tableau/api"
	"tableau/desk"
)

// P26.1: New answers canvas's error, or a screen of Back everywhere, and nothing else.
func TestNew(t *testing.T) {
	for _, n := range append(far(), 49, 48) {
		for _, x := range [][2]int{{n, 5}, {5, n}, {n, n}} {
			d, e := desk.New(x[0], x[1])
			right := min(x[0], x[1]) >= 1 && max(x[0], x[1]) <= 48
			if !right {
				if d != nil || !just(e, api.ErrArg) {
					t.Fatal(x, d, e)
				}
				continue
			}
			if e != nil || d == nil {
				t.Fatal(x, e)
			}
			s := d.Screen()
			if len(s) != x[0]*x[1] || slices.ContainsFunc(s, func(v uint32) bool { return v != 0xff102030 }) {
				t.Fatalf("%v: %x", x, s)
			}
			if d.Serial() != 0 || len(d.Views()) != 0 || len(d.Events(1)) != 0 || d.Face(1, 1) != 0 {
				t.Fatal(x, "something is there")
			}
		}
	}
	if desk.Back != 0xff102030 {
		t.Error(desk.Back)
	}
}

// P26.1: numbers from 1 on, MaxClients at most; those that are gone count, and their numbers do not come again.
func TestConnect(t *testing.T) {
	d, _ := desk.New(1, 1)
	for n := 1; n <= 6; n++ {
		if got, e := d.Connect(); got != n || e != nil {
			t.Fatal(n, got, e)
		}
		if n%2 == 0 {
			d.Drop(n)
		}
	}
	for range 3 {
		if got, e := d.Connect(); got != 0 || !just(e, api.ErrFull) {
			t.Fatal(got, e)
		}
		d.Drop(1)
		d.Drop(3)
	}
	for n, want := range []int{0, 0, 0, 0, 0, api.Display, 0, 0} {
		if d.Face(n, 1) != want {
			t.Error(n, d.Face(n, 1))
		}
	}
}

// P26.1: a client has the display, and nothing else, at first; of what is none there is nothing.
func TestFace(t *testing.T) {
	k := begin(t, 2)
	if k.d.Face(1, 1) != api.Display || k.d.Face(2, 1) != api.Display || k.d.Face(1, 2) != api.Registry || k.d.Face(1, 8) != api.Pool {
		t.Error("they are not what they are")
	}
	k.do(1, "compositor.create_surface", 3, 255)
	if k.d.Face(1, 255) != api.Surface || k.d.Face(2, 255) != 0 || k.d.Face(1, 256) != 0 || k.d.Face(1, 0) != 0 || k.d.Face(1, 9) != 0 {
		t.Error("255")
	}
	for _, n := range far() {
		if n < 1 || n > 2 {
			if k.d.Face(n, 1) != 0 {
				t.Error(n, k.d.Face(n, 1))
			}
		}
		if n < 1 || n > 8 && n != 255 {
			if k.d.Face(1, n) != 0 {
				t.Error(n, k.d.Face(1, n))
			}
		}
	}
}

// P26.1: what is sent is told once, in order, to whom it was sent.
func TestEvents(t *testing.T) {
	k := begin(t, 2)
	k.do(1, "display.sync", 1, 20)
	k.do(2, "display.sync", 1, 30)
	k.do(1, "display.sync", 1, 21)
	k.told(1, "callback 20 done 0", "display 1 delete_id 20", "callback 21 done 0", "display 1 delete_id 21")
	k.told(1)
	k.do(1, "display.sync", 1, 20)
	k.told(1, "callback 20 done 0", "display 1 delete_id 20")
	k.told(2, "callback 30 done 0", "display 1 delete_id 30")
	for _, n := range far() {
		k.told(n)
	}
}

// P26.1: a list that was told is the asker's: writing into it, and behind its end, turns nothing that is told later (R3).
func TestEventsAreNew(t *testing.T) {
	k := begin(t, 1)
	k.do(1, "display.get_registry", 1, 20)
	first := k.d.Events(1)
	want := lines(first)
	k.do(1, "display.get_registry", 1, 21)
	second := k.d.Events(1)
	wantSecond := lines(second)
	for i, e := range second[:cap(second)] {
		if i < len(second) {
			spoil(e.Msg.Args)
		}
		second[:cap(second)][i] = desk.Event{Face: 1, Msg: api.Msg{Op: 1}}
	}
	if got := lines(first); !slices.Equal(got, want) {
		t.Error(got)
	}
	for i, e := range first {
		spoil(e.Msg.Args)
		if i+1 < len(first) && !slices.Equal(lines(first[i+1:]), want[i+1:]) {
			t.Error("one event's arguments are another one's")
		}
	}
	k.do(1, "display.get_registry", 1, 22)
	third := k.d.Events(1)
	for i := range third {
		third[i].Msg.Object = 21
	}
	if got := lines(third); !slices.Equal(got, wantSecond) {
		t.Error(got)
	}
}

// spoil writes over arguments, and behind them.
func spoil(args []api.Arg) {
	args = args[:cap(args)]
	for i := range args {
		args[i] = api.Arg{Kind: 'x', N: -1, S: "spoilt"}
	}
}

// P26.1: of a client that is gone there is nothing, and what it was told but has not asked for neither; nor of one that never was.
func TestGone(t *testing.T) {
	k := begin(t, 2)
	k.do(2, "display.sync", 1, 20)
	k.d.Drop(2)
	for _, n := range append(far(), 2, 3) {
		if n == 1 {
			continue
		}
		for range 2 {
			for _, r := range []api.Raw{{}, {Object: 1}, raw(1, "display.sync", 21), {Object: 99, Op: -1, Body: "x"}} {
				if e := k.d.Handle(n, r); !just(e, api.ErrGone) {
					t.Error(n, r, e)
				}
			}
			if e := k.d.Memory(n, 1, 1); !just(e, api.ErrGone) {
				t.Error(n, e)
			}
			if e := k.d.Memory(n, 0, -1); !just(e, api.ErrGone) {
				t.Error(n, e)
			}
			if e := k.d.Write(n, 1, 0, nil); !just(e, api.ErrGone) {
				t.Error(n, e)
			}
			if e := k.d.Write(n, 9, -1, []byte{1}); !just(e, api.ErrGone) {
				t.Error(n, e)
			}
			k.told(n)
			k.d.Ping(n)
			if k.d.Face(n, 1) != 0 {
				t.Error(n)
			}
			k.d.Drop(n)
		}
	}
	k.serial(0)
	k.do(1, "display.sync", 1, 20)
	k.told(1, "callback 20 done 0", "display 1 delete_id 20")
}

// P26.1: Memory and Write answer memory's errors, and are of one client alone.
func TestMemory(t *testing.T) {
	k := begin(t, 2)
	for _, x := range []struct {
		key, size int
		want      error
	}{{0, 4, api.ErrArg}, {256, 4, api.ErrArg}, {-1, 4, api.ErrArg}, {3, -1, api.ErrArg}, {3, 65537, api.ErrArg}, {math.MaxInt, math.MinInt, api.ErrArg}, {255, 65536, nil}, {3, 0, nil}, {1, 64, nil}, {1, 64, nil}} {
		if e := k.d.Memory(1, x.key, x.size); !just(e, x.want) {
			t.Error(x, e)
		}
	}
	for _, x := range []struct {
		key, at int
		b       string
		want    error
	}{{0, 0, "", api.ErrFile}, {2, 0, "a", api.ErrFile}, {1, -1, "a", api.ErrStride}, {1, 64, "a", api.ErrStride}, {1, 64, "", nil}, {1, 63, "a", nil}, {1, 63, "ab", api.ErrStride}, {3, 0, "", nil}, {1, math.MaxInt, "a", api.ErrStride}} {
		if e := k.d.Write(1, x.key, x.at, []byte(x.b)); !just(e, x.want) {
			t.Error(x, e)
		}
	}
	// 255 is the first one's alone.
	k.do(1, "shm.create_pool", 4, 20, 255, 65536)
	k.bad(api.ErrFile, 2, "shm.create_pool", 4, 20, 255, 65536)
	k.bad(api.ErrFile, 1, "shm.create_pool", 4, 21, 2, 1)
	if e := k.d.Write(2, 255, 0, nil); !just(e, api.ErrFile) {
		t.Error(e)
	}
}

// P26.1: bytes that are written are neither turned nor kept (R3).
func TestWriteKeepsNothing(t *testing.T) {
	k := begin(t, 1)
	k.window(1, 20, 1, 1)
	b := []byte{1, 2, 3, 4, 5, 6, 7, 8}
	if e := k.d.Write(1, 1, 0, b[:4]); e != nil {
		t.Fatal(e)
	}
	if !slices.Equal(b, []byte{1, 2, 3, 4, 5, 6, 7, 8}) {
		t.Error(b)
	}
	for i := range b {
		b[i] = 9
	}
	k.d.Tick(0)
	if v := k.d.Screen()[0]; v != 0xff030201 {
		t.Errorf("%x", v)
	}
}

// P26.1: each new serial is one more, whoever it is for.
func TestSerial(t *testing.T) {
	k := begin(t, 2)
	k.serial(0)
	k.d.Ping(1)
	k.serial(1)
	k.d.Ping(2)
	k.serial(2)
	k.window(1, 20, 1, 1)
	k.serial(3)
	k.do(2, "display.sync", 1, 20)
	k.hush()
	k.d.Drop(1)
	k.serial(3)
	k.do(2, "display.sync", 1, 20)
	k.told(2, "callback 20 done 3", "display 1 delete_id 20")
}

// P26.1: an object's number is 1000 times its client and the object; a buffer's is a new one each time it is made, of all clients, and not used up by one that is not made.
func TestNumbers(t *testing.T) {
	k := begin(t, 3)
	k.window(3, 20, 1, 1)
	k.window(1, 254-2, 1, 1)
	k.sees(view(3020, 1, 0, 0, 1, 1), view(1252, 2, 3, 2, 1, 1))
	k.hush()
	k.bad(api.ErrFormat, 2, "pool.create_buffer", 8, 19, 0, 1, 1, 4, 2)
	k.bad(api.ErrStride, 2, "pool.create_buffer", 8, 19, 0, 1, 1, 3, 0)
	k.wrong(2, raw(8, "pool.create_buffer", 7, 0, 1, 1, 4, 0), 1, api.ErrObject)
	k.window(2, 20, 1, 1)
	k.sees(view(3020, 1, 0, 0, 1, 1), view(1252, 2, 3, 2, 1, 1), view(2020, 3, 6, 4, 1, 1))
	// A number of an object that comes again is another buffer's: 4 is forgotten at once, 5 is seen.
	k.buffer(2, 30, 1, 1)
	k.do(2, "buffer.destroy", 30)
	k.buffer(2, 30, 1, 1)
	k.do(2, "surface.attach", 20, 30, 0, 0)
	k.do(2, "surface.commit", 20)
	k.sees(view(3020, 1, 0, 0, 1, 1), view(1252, 2, 3, 2, 1, 1), view(2020, 5, 6, 4, 1, 1))
	k.d.Drop(3)
	k.window(2, 40, 1, 1)
	k.sees(view(1252, 2, 3, 2, 1, 1), view(2020, 5, 6, 4, 1, 1), view(2040, 6, 9, 6, 1, 1))
}

// P26.1: who is gone is gone with windows, surfaces, buffers and all; the others keep theirs, and nobody is told.
func TestDrop(t *testing.T) {
	k := begin(t, 2)
	k.window(1, 20, 4, 4)
	k.window(2, 20, 4, 4)
	k.sub(2, 30, 20, 2, 2)
	k.do(2, "surface.commit", 20)
	k.do(2, "seat.get_pointer", 6, 40)
	k.do(1, "seat.get_pointer", 6, 40)
	k.do(1, "seat.get_keyboard", 6, 41)
	k.d.Tick(1)
	k.d.Motion(4, 3)
	k.hush()
	serial := k.d.Serial()
	if p := len(k.d.Views()); p != 3 {
		t.Fatal(k.d.Views())
	}
	k.d.Drop(2)
	k.quiet()
	k.serial(serial)
	k.sees(view(1020, 1, 0, 0, 4, 4))
	k.d.Button(1, true)
	k.d.Key(1, true)
	k.quiet()
	k.serial(serial)
	k.d.Tick(2)
	k.told(1, fmt.Sprintf("keyboard 41 enter %d 20", serial+1))
	if v := k.d.Screen()[4*16+4]; v != desk.Back {
		t.Errorf("%x", v)
	}
	k.d.Resize(5, 5)
	k.told(1, "toplevel 22 configure 5 5", fmt.Sprintf("xdg_surface 21 configure %d", serial+2))
	k.d.Drop(1)
	k.sees()
	k.d.Tick(3)
	k.d.Motion(0, 0)
	k.d.Resize(5, 5)
	k.d.Button(1, true)
	k.d.Key(1, true)
	k.serial(serial + 2)
	k.quiet()
}

// P26.1: the surfaces of who is gone leave room for others.
func TestDropMakesRoom(t *testing.T) {
	k := begin(t, 2)
	for i := range 40 {
		k.do(1, "compositor.create_surface", 3, 20+i)
	}
	k.bad(api.ErrBig, 2, "compositor.create_surface", 3, 20)
	k.do(1, "surface.destroy", 20)
	k.do(2, "compositor.create_surface", 3, 20)
	k.hush()
	k.bad(api.ErrBig, 1, "compositor.create_surface", 3, 20)
	k.d.Drop(1)
	for i := range 39 {
		k.do(2, "compositor.create_surface", 3, 21+i)
	}
	k.bad(api.ErrBig, 2, "compositor.create_surface", 3, 200)
}

// P26.1: a client that is gone is not released anything, whatever it still held, and is not late.
func TestDropHeld(t *testing.T) {
	k := begin(t, 2)
	k.window(2, 20, 1, 1)
	k.do(2, "buffer.destroy", 19)
	k.buffer(2, 40, 1, 1)
	k.sub(2, 30, 20, 1, 1)
	k.do(2, "surface.attach", 20, 40, 0, 0)
	k.d.Ping(2)
	k.d.Drop(2)
	k.do(1, "display.sync", 1, 20)
	k.told(1, "callback 20 done 2", "display 1 delete_id 20")
	k.told(2)
	for range 9 {
		if l := k.d.Tick(0); len(l) != 0 {
			t.Error(l)
		}
	}
	k.quiet()
}

// P26.1: two desks have nothing in common (R4).
func TestTwoDesks(t *testing.T) {
	a, b := begin(t, 1), begin(t, 1)
	a.window(1, 20, 2, 2)
	a.d.Tick(7)
	b.serial(0)
	b.sees()
	b.quiet()
	b.window(1, 30, 1, 1)
	b.sees(view(1030, 1, 0, 0, 1, 1))
	a.sees(view(1020, 1, 0, 0, 2, 2))
	if a.d.Face(1, 30) != 0 || b.d.Face(1, 20) != 0 {
		t.Error("objects")
	}
}
