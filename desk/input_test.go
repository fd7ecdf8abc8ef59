package desk_test

import (
	"math"
	"testing"

	"tableau/api"
)

// seated is a desk with the window 20 of 4 by 4 at 0, 0 (client 1) and 20 of 4 by 4 at 3, 2 (client 2), each client with a pointer 50 and a keyboard 51.
func seated(t *testing.T) *trial {
	t.Helper()
	k := begin(t, 2)
	for c := 1; c <= 2; c++ {
		k.window(c, 20, 4, 4)
		k.do(c, "seat.get_pointer", 6, 50)
		k.do(c, "seat.get_keyboard", 6, 51)
	}
	k.hush()
	k.serial(2)
	return k
}

// P26.4: the pointer enters, moves and leaves: enter and leave with a new serial each, motion with the last Tick's time.
func TestMotion(t *testing.T) {
	k := seated(t)
	k.d.Motion(1, 2)
	k.told(1, "pointer 50 enter 3 20 256 512")
	k.d.Motion(0, 3)
	k.told(1, "pointer 50 motion 0 0 768")
	k.d.Tick(77)
	k.told(2, "keyboard 51 enter 4 20")
	k.d.Motion(0, 3)
	k.told(1, "pointer 50 motion 77 0 768")
	// Where both are it is the upper one's.
	k.d.Motion(3, 2)
	k.told(1, "pointer 50 leave 5 20")
	k.told(2, "pointer 50 enter 6 20 0 0")
	k.d.Motion(6, 5)
	k.told(2, "pointer 50 motion 77 768 768")
	k.d.Motion(7, 5)
	k.told(2, "pointer 50 leave 7 20")
	k.d.Motion(7, 5)
	k.d.Motion(-1, 0)
	k.d.Motion(math.MinInt, math.MaxInt)
	k.quiet()
	k.d.Motion(2, 3)
	k.told(1, "pointer 50 enter 8 20 512 768")
	k.quiet()
	k.serial(8)
}

// P26.4: the pointer goes as far as MaxEdge, and what is there has it.
func TestMotionFar(t *testing.T) {
	k := begin(t, 1)
	k.window(1, 20, 4, 4)
	k.sub(1, 30, 20, 2, 2)
	k.do(1, "subsurface.set_position", 31, -1<<24, 1<<24)
	k.do(1, "surface.commit", 20)
	k.do(1, "seat.get_pointer", 6, 50)
	k.hush()
	k.d.Motion(-1<<24, 1<<24)
	k.told(1, "pointer 50 enter 2 30 0 0")
	k.d.Motion(math.MinInt, math.MaxInt)
	k.told(1, "pointer 50 motion 0 0 0")
	k.d.Motion(-1<<24+1, math.MaxInt)
	k.told(1, "pointer 50 motion 0 256 0")
	k.d.Motion(-1<<24+2, math.MaxInt)
	k.told(1, "pointer 50 leave 3 30")
}

// P26.4: each of the client's pointers is told, rising, with the one serial; of keys each of its keyboards.
func TestEachPointer(t *testing.T) {
	k := seated(t)
	k.do(1, "seat.get_pointer", 6, 40)
	k.do(1, "seat.get_pointer", 6, 60)
	k.do(2, "seat.get_keyboard", 6, 40)
	k.d.Motion(0, 0)
	k.told(1, "pointer 40 enter 3 20 0 0", "pointer 50 enter 3 20 0 0", "pointer 60 enter 3 20 0 0")
	k.d.Tick(1)
	k.told(2, "keyboard 40 enter 4 20", "keyboard 51 enter 4 20")
	k.d.Motion(1, 0)
	k.told(1, "pointer 40 motion 1 256 0", "pointer 50 motion 1 256 0", "pointer 60 motion 1 256 0")
	k.do(1, "pointer.release", 50)
	k.hush()
	k.d.Button(5, false)
	k.told(1, "pointer 40 button 5 1 5 0", "pointer 60 button 5 1 5 0")
	k.d.Key(6, true)
	k.told(2, "keyboard 40 key 6 1 6 1", "keyboard 51 key 6 1 6 1")
	k.d.Motion(10, 10)
	k.told(1, "pointer 40 leave 7 20", "pointer 60 leave 7 20")
	k.do(2, "toplevel.destroy", 22)
	k.hush()
	k.d.Tick(2)
	k.told(2, "keyboard 40 leave 8 20", "keyboard 51 leave 8 20")
	k.told(1, "keyboard 51 enter 9 20")
}

// P26.4: serials are used up also where nobody is told; a motion uses none.
func TestNobodyTold(t *testing.T) {
	k := begin(t, 1)
	k.window(1, 20, 4, 4)
	k.hush()
	k.d.Motion(0, 0)
	k.serial(2)
	k.d.Motion(1, 1)
	k.serial(2)
	k.d.Button(1, true)
	k.serial(3)
	k.d.Key(1, true) // nobody has the keys yet
	k.serial(3)
	k.d.Tick(0)
	k.serial(4)
	k.d.Key(1, false)
	k.serial(5)
	k.d.Motion(9, 9)
	k.serial(6)
	k.d.Button(1, true) // nobody has the pointer
	k.serial(6)
	k.quiet()
	// Who comes late has missed the enter.
	k.do(1, "seat.get_pointer", 6, 50)
	k.do(1, "seat.get_keyboard", 6, 51)
	k.d.Key(1, false)
	k.told(1, "keyboard 51 key 7 0 1 0")
}

// P26.4: a button is told with its number modulo 2^32, pressed or not.
func TestButton(t *testing.T) {
	k := seated(t)
	k.d.Button(1, true)
	k.quiet()
	k.serial(2)
	k.d.Tick(-1)
	k.told(1, "pointer 50 enter 3 20 0 0")
	k.told(2, "keyboard 51 enter 4 20")
	k.d.Button(272, false)
	k.d.Button(-1, true)
	k.d.Button(1<<32, true)
	k.d.Button(math.MinInt+5, false)
	k.told(1, "pointer 50 button 5 4294967295 272 0", "pointer 50 button 6 4294967295 4294967295 1", "pointer 50 button 7 4294967295 0 1", "pointer 50 button 8 4294967295 5 0")
	k.told(2)
}

// P26.4: likewise a key, to who has the keys, wherever the pointer is; it raises nobody.
func TestKey(t *testing.T) {
	k := seated(t)
	k.d.Key(1, true)
	k.quiet()
	k.serial(2)
	k.d.Motion(0, 0)
	k.d.Tick(9)
	k.hush()
	k.d.Key(30, true)
	k.d.Key(-1, false)
	k.d.Key(1<<32+7, true)
	k.told(2, "keyboard 51 key 5 9 30 1", "keyboard 51 key 6 9 4294967295 0", "keyboard 51 key 7 9 7 1")
	k.told(1)
	k.d.Button(1, true)
	k.hush()
	// The first one is above, but the keys move at the next tick alone.
	k.d.Key(30, true)
	k.told(2, "keyboard 51 key 9 9 30 1")
	k.sees(view(2020, 2, 3, 2, 4, 4), view(1020, 1, 0, 0, 4, 4))
	k.d.Tick(10)
	k.told(2, "keyboard 51 leave 10 20")
	k.told(1, "keyboard 51 enter 11 20")
	k.d.Key(30, false)
	k.told(1, "keyboard 51 key 12 10 30 0")
}

// P26.4: a button that is pressed raises the window that is below the pointer, or in which the surface is, however deep; one that is let go raises none.
func TestRaise(t *testing.T) {
	k := begin(t, 1)
	k.window(1, 20, 8, 8)
	k.sub(1, 30, 20, 2, 2)
	k.sub(1, 40, 30, 1, 1)
	k.do(1, "surface.commit", 30)
	k.do(1, "surface.commit", 20)
	k.window(1, 60, 1, 1) // at 3, 2
	k.window(1, 70, 1, 1) // at 6, 4
	a, b, c := view(1060, 4, 3, 2, 1, 1), view(1070, 5, 6, 4, 1, 1), []api.View{view(1020, 1, 0, 0, 8, 8), view(1030, 2, 0, 0, 2, 2), view(1040, 3, 0, 0, 1, 1)}
	below, above := append(c[:3:3], a, b), append([]api.View{a, b}, c...)
	k.sees(below...)
	k.d.Motion(0, 0)
	k.d.Button(1, false)
	k.sees(below...)
	k.d.Button(1, true)
	k.sees(above...)
	k.d.Button(1, true)
	k.sees(above...)
	// Where it is has not turned, so what was below it has the focus till it is looked at.
	k.d.Motion(3, 2)
	k.d.Button(1, true)
	k.sees(above...)
	k.do(1, "surface.attach", 20, 0, 0, 0)
	k.do(1, "surface.commit", 20)
	k.sees(a, b)
	// The window has the pointer still, but is not in the stack, and is not put there.
	k.d.Button(1, true)
	k.sees(a, b)
	k.d.Motion(3, 2)
	k.d.Button(1, false)
	k.sees(a, b)
	k.d.Button(1, true)
	k.sees(b, a)
}

// P26.4: the topmost window is asked, each number cut to from 0 to MaxEdge; if there is none nobody is.
func TestResize(t *testing.T) {
	k := begin(t, 2)
	k.d.Resize(1, 1)
	k.do(1, "compositor.create_surface", 3, 20)
	k.toplevel(1, 20)
	k.hush()
	k.d.Resize(1, 1) // it is not shown
	k.quiet()
	k.serial(1)
	k.window(2, 20, 1, 1)
	k.window(1, 30, 1, 1)
	k.hush()
	k.serial(3)
	for _, n := range far() {
		cut := min(max(n, 0), 16777216)
		k.d.Resize(n, 5)
		k.told(1, "toplevel 32 configure "+num(cut)+" 5", "xdg_surface 31 configure "+num(k.d.Serial()))
		k.d.Resize(5, n)
		k.told(1, "toplevel 32 configure 5 "+num(cut), "xdg_surface 31 configure "+num(k.d.Serial()))
	}
	k.serial(3 + 2*len(far()))
	k.told(2)
	k.do(1, "xdg_surface.ack_configure", 31, 3+len(far()))
	k.bad(api.ErrSerial, 1, "xdg_surface.ack_configure", 31, 3+len(far()))
	k.do(1, "xdg_surface.ack_configure", 31, k.d.Serial())
	k.do(1, "toplevel.destroy", 32)
	k.hush()
	k.d.Resize(2, 3)
	k.told(2, "toplevel 22 configure 2 3", "xdg_surface 21 configure "+num(k.d.Serial()))
}

// P26.4: a client that has wm_bases is pinged by the first of them, once till it answers.
func TestPing(t *testing.T) {
	k := begin(t, 2)
	k.do(1, "registry.bind", 2, 5, "xdg_wm_base", 1, 40)
	k.d.Ping(1)
	k.told(1, "wm_base 7 ping 1")
	k.d.Ping(1)
	k.quiet()
	k.serial(1)
	k.do(1, "wm_base.pong", 40, 1)
	k.do(1, "wm_base.destroy", 7)
	k.hush()
	k.d.Ping(1)
	k.told(1, "wm_base 40 ping 2")
	k.do(2, "wm_base.destroy", 7)
	k.hush()
	for _, n := range append(far(), 2, 3) {
		if n != 1 {
			k.d.Ping(n)
		}
	}
	k.quiet()
	k.serial(2)
}

// P26.4: the pointer is on what is there now, not on what was at the last tick.
func TestMotionNow(t *testing.T) {
	k := seated(t)
	k.d.Motion(3, 2)
	k.told(2, "pointer 50 enter 3 20 0 0")
	k.do(2, "toplevel.destroy", 22)
	k.hush()
	k.d.Motion(3, 2)
	k.told(2, "pointer 50 leave 4 20")
	k.told(1, "pointer 50 enter 5 20 768 512")
}
