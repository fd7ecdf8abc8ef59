package desk_test

import (
	"errors"
	"math/rand"
	"strings"
	"testing"

	"tableau/api"
	"tableau/desk"
	"tableau/fault"
)

// P26.2: the document's example, and other objects that are not there: a fault of the object 1.
func TestNoObject(t *testing.T) {
	k := begin(t, 2)
	f, ok := fault.Of(k.d.Handle(1, api.Raw{Object: 9}))
	if !ok || f.Object != 1 || f.Code != 0 || f.Text != "object" {
		t.Error(f)
	}
	k.do(2, "compositor.create_surface", 3, 20)
	for _, n := range append(far(), 9, 20, 255, 256, 1003, 1<<32+1) {
		if n < 1 || n > 8 {
			k.wrong(1, api.Raw{Object: n}, 1, api.ErrObject)
			k.wrong(1, api.Raw{Object: n, Op: -1, Body: "x"}, 1, api.ErrObject)
		}
	}
	k.do(2, "surface.destroy", 20)
	k.hush()
	k.wrong(2, raw(20, "surface.commit"), 1, api.ErrObject)
}

// P26.2: requests that are none are told of their own object, whatever their bytes are.
func TestNoMethod(t *testing.T) {
	k := begin(t, 1)
	k.sub(1, 30, func() int { k.window(1, 20, 1, 1); return 20 }(), 1, 1)
	k.do(1, "compositor.create_region", 3, 40)
	k.do(1, "seat.get_pointer", 6, 41)
	k.do(1, "seat.get_keyboard", 6, 42)
	k.do(1, "surface.frame", 20, 43)
	k.hush()
	// By object: how many requests it has.
	for object, most := range map[int]int{1: 2, 2: 1, 3: 2, 4: 1, 5: 2, 6: 2, 7: 3, 8: 3, 19: 1, 20: 6, 21: 3, 22: 2, 31: 6, 40: 3, 41: 1, 42: 1, 43: 0} {
		for _, op := range append(far(), most, most+1, 65536) {
			if op < 0 || op >= most {
				k.wrong(1, api.Raw{Object: object, Op: op}, object, api.ErrMethod)
				k.wrong(1, api.Raw{Object: object, Op: op, Body: "\x28\x00\x00\x00"}, object, api.ErrMethod)
			}
		}
	}
}

// P26.2: what wire's Get says is told of the request's object; it is asked ahead of the new object, and of all that P26.3 says.
func TestBytes(t *testing.T) {
	k := begin(t, 1)
	k.window(1, 20, 1, 1)
	k.hush()
	long := strings.Repeat("a", 201)
	for _, x := range []struct {
		r    api.Raw
		want error
	}{
		{api.Raw{Object: 1}, api.ErrShort}, {api.Raw{Object: 1, Body: "\x28\x00\x00"}, api.ErrShort}, {api.Raw{Object: 1, Body: "\x28\x00\x00\x00\x00"}, api.ErrBytes},
		{api.Raw{Object: 1, Body: word(0)}, api.ErrBytes}, {api.Raw{Object: 1, Body: word(1) + word(1)}, api.ErrBytes}, {api.Raw{Object: 3, Body: word(8) + "x"}, api.ErrBytes},
		{api.Raw{Object: 20, Op: 1, Body: word(99) + word(1)}, api.ErrShort}, {api.Raw{Object: 20, Op: 0, Body: "x"}, api.ErrBytes}, {api.Raw{Object: 20, Op: 5, Body: word(0)}, api.ErrBytes},
		{api.Raw{Object: 22, Op: 1, Body: word(0)}, api.ErrBytes}, {api.Raw{Object: 22, Op: 1, Body: word(4097)}, api.ErrBig}, {api.Raw{Object: 22, Op: 1, Body: word(2) + "ab\x00\x00"}, api.ErrBytes},
		{api.Raw{Object: 22, Op: 1, Body: body([]any{long})}, api.ErrBytes}, {api.Raw{Object: 22, Op: 1, Body: word(9) + "abcd"}, api.ErrShort},
		{api.Raw{Object: 2, Body: word(9) + body([]any{long}) + word(1) + word(40)}, api.ErrBytes}, {api.Raw{Object: 2, Body: body([]any{1, "wl_shm", 1, 0})}, api.ErrBytes}, {api.Raw{Object: 2, Body: body([]any{9, "", 0})}, api.ErrShort},
	} {
		k.wrong(1, x.r, x.r.Object, x.want)
	}
	k.do(1, "toplevel.set_title", 22, strings.Repeat("a", 200))
	k.do(1, "toplevel.set_title", 22, "")
	k.quiet()
}

// P26.2: a new object is asked for first, ahead of what its request says, and of the object 1.
func TestNewObject(t *testing.T) {
	k := begin(t, 1)
	k.window(1, 20, 1, 1)
	k.hush()
	for _, id := range []int{1, 2, 8, 20, 256, 257, 1 << 20, 1<<32 - 1} {
		for _, r := range []api.Raw{
			raw(1, "display.sync", id), raw(1, "display.get_registry", id), raw(2, "registry.bind", 2, "wl_shm", 1, id),
			raw(3, "compositor.create_surface", id), raw(3, "compositor.create_region", id),
			raw(4, "shm.create_pool", id, 1, 64), raw(4, "shm.create_pool", id, 99, 0),
			raw(8, "pool.create_buffer", id, 0, 1, 1, 4, 0), raw(8, "pool.create_buffer", id, 0, 0, 0, 0, 9),
			raw(20, "surface.frame", id), raw(5, "subcompositor.get_subsurface", id, 99, 99), raw(5, "subcompositor.get_subsurface", id, 20, 20),
			raw(6, "seat.get_pointer", id), raw(6, "seat.get_keyboard", id),
			raw(7, "wm_base.get_xdg_surface", id, 99), raw(7, "wm_base.get_xdg_surface", id, 20), raw(21, "xdg_surface.get_toplevel", id),
		} {
			k.wrong(1, r, 1, api.ErrObject)
		}
	}
	k.do(1, "display.get_registry", 1, 255)
	k.do(1, "registry.bind", 255, 1, "wl_compositor", 4, 254)
	if k.d.Face(1, 254) != api.Compositor {
		t.Error(k.d.Face(1, 254))
	}
}

// P26.2: a number whose request fails is free still: it may come again, as something else.
func TestNumberAfterFault(t *testing.T) {
	k := begin(t, 1)
	k.bad(api.ErrFile, 1, "shm.create_pool", 4, 40, 2, 64)
	k.do(1, "compositor.create_surface", 3, 40)
	k.bad(api.ErrObject, 1, "wm_base.get_xdg_surface", 7, 41, 8)
	k.bad(api.ErrPlace, 1, "subcompositor.get_subsurface", 5, 41, 40, 40)
	// The object that is being made is none of those that are asked for.
	k.bad(api.ErrObject, 1, "wm_base.get_xdg_surface", 7, 41, 41)
	k.bad(api.ErrObject, 1, "subcompositor.get_subsurface", 5, 41, 41, 40)
	k.do(1, "compositor.create_region", 3, 41)
	k.do(1, "surface.set_input_region", 40, 41)
}

// P26.2: which objects a request makes.
func TestMakes(t *testing.T) {
	k := begin(t, 1)
	k.do(1, "compositor.create_surface", 3, 20)
	k.do(1, "compositor.create_surface", 3, 21)
	for i, x := range []struct {
		r    api.Raw
		face int
	}{
		{raw(1, "display.get_registry", 30), api.Registry}, {raw(20, "surface.frame", 30), api.Callback},
		{raw(2, "registry.bind", 1, "wl_compositor", 4, 30), api.Compositor}, {raw(2, "registry.bind", 2, "wl_shm", 1, 30), api.Shm},
		{raw(2, "registry.bind", 3, "wl_subcompositor", 1, 30), api.Subcompositor}, {raw(2, "registry.bind", 4, "wl_seat", 5, 30), api.Seat},
		{raw(2, "registry.bind", 5, "xdg_wm_base", 1, 30), api.WmBase},
		{raw(3, "compositor.create_surface", 30), api.Surface}, {raw(3, "compositor.create_region", 30), api.Region},
		{raw(4, "shm.create_pool", 30, 1, 1), api.Pool}, {raw(8, "pool.create_buffer", 30, 0, 1, 1, 4, 1), api.Buffer},
		{raw(6, "seat.get_pointer", 30), api.Pointer}, {raw(6, "seat.get_keyboard", 30), api.Keyboard},
		{raw(5, "subcompositor.get_subsurface", 30, 20, 21), api.Subsurface}, {raw(7, "wm_base.get_xdg_surface", 30, 21), api.XdgSurface},
	} {
		x.r.Body = strings.Replace(x.r.Body, word(30), word(100+i), 1)
		if e := k.d.Handle(1, x.r); e != nil || k.d.Face(1, 100+i) != x.face {
			t.Error(x, e, k.d.Face(1, 100+i))
		}
	}
	k.do(1, "xdg_surface.get_toplevel", 114, 115)
	if k.d.Face(1, 115) != api.Toplevel {
		t.Error(k.d.Face(1, 115))
	}
}

// P26.2: what a request ends is gone, and delete_id is sent, behind all else but releases; its number may come again.
func TestEnds(t *testing.T) {
	k := begin(t, 1)
	k.window(1, 20, 1, 1)
	k.sub(1, 30, 20, 1, 1)
	k.do(1, "compositor.create_region", 3, 40)
	k.do(1, "seat.get_pointer", 6, 41)
	k.do(1, "seat.get_keyboard", 6, 42)
	k.do(1, "surface.commit", 20)
	k.hush()
	for _, x := range []struct {
		object int
		name   string
		then   []string
	}{
		{8, "pool.destroy", nil}, {40, "region.destroy", nil}, {41, "pointer.release", nil}, {42, "keyboard.release", nil},
		{31, "subsurface.destroy", nil}, {29, "buffer.destroy", nil}, {30, "surface.destroy", nil},
		{22, "toplevel.destroy", nil}, {21, "xdg_surface.destroy", nil}, {20, "surface.destroy", []string{"buffer 19 release"}},
		{19, "buffer.destroy", nil}, {5, "subcompositor.destroy", nil}, {7, "wm_base.destroy", nil},
	} {
		k.do(1, x.name, x.object)
		k.told(1, append([]string{"display 1 delete_id " + num(x.object)}, x.then...)...)
		k.wrong(1, raw(x.object, x.name), 1, api.ErrObject)
		k.do(1, "compositor.create_region", 3, x.object)
		k.do(1, "region.destroy", x.object)
		k.told(1, "display 1 delete_id "+num(x.object))
	}
}

// P26.2: a request that fails ends nothing, and tells nothing of deleting.
func TestEndsNot(t *testing.T) {
	k := begin(t, 1)
	k.window(1, 20, 1, 1)
	k.hush()
	k.bad(api.ErrRole, 1, "surface.destroy", 20)
	k.bad(api.ErrState, 1, "xdg_surface.destroy", 21)
	k.wrong(1, api.Raw{Object: 22, Body: "x"}, 22, api.ErrBytes)
	k.do(1, "toplevel.destroy", 22)
	k.hush()
	k.bad(api.ErrRole, 1, "surface.destroy", 20)
}

// P26.2: buffers are released when nobody holds them any more, once, rising, whatever request it was that let them go.
func TestRelease(t *testing.T) {
	k := begin(t, 1)
	k.window(1, 20, 2, 2)
	k.sub(1, 30, 20, 2, 2)
	k.sub(1, 40, 20, 2, 2)
	k.do(1, "surface.commit", 20)
	k.hush()
	// Cached is held, pending is not.
	k.buffer(1, 50, 1, 1)
	k.do(1, "surface.attach", 30, 50, 0, 0)
	k.do(1, "surface.attach", 30, 0, 0, 0)
	k.do(1, "surface.attach", 30, 50, 0, 0)
	k.quiet()
	k.do(1, "surface.commit", 30)
	k.quiet()
	k.do(1, "surface.attach", 30, 19, 0, 0)
	k.do(1, "surface.commit", 30)
	k.told(1, "buffer 50 release")
	k.do(1, "surface.attach", 40, 19, 0, 0)
	k.do(1, "surface.commit", 40)
	k.quiet()
	// Both of the subsurfaces' are let go at once: 29 and 39 are the numbers 2 and 3.
	k.do(1, "surface.commit", 20)
	k.told(1, "buffer 29 release", "buffer 39 release")
	k.do(1, "surface.attach", 20, 50, 0, 0)
	k.do(1, "surface.commit", 20)
	k.quiet()
	k.do(1, "surface.destroy", 30)
	k.told(1, "display 1 delete_id 30")
	k.do(1, "surface.destroy", 40)
	k.told(1, "display 1 delete_id 40", "buffer 19 release")
	// The same one attached anew is held all the time.
	k.do(1, "surface.attach", 20, 50, 0, 0)
	k.do(1, "surface.commit", 20)
	k.do(1, "surface.attach", 20, 0, 0, 0)
	k.quiet()
	k.do(1, "surface.commit", 20)
	k.told(1, "buffer 50 release")
	k.do(1, "display.sync", 1, 60)
	k.told(1, "callback 60 done 1", "display 1 delete_id 60")
}

// P26.2: releases go by the buffers' numbers, not by their objects'.
func TestReleaseOrder(t *testing.T) {
	k := begin(t, 1)
	k.do(1, "compositor.create_surface", 3, 60)
	k.toplevel(1, 60)
	k.sub(1, 50, 60, 1, 1)
	k.sub(1, 40, 60, 1, 1)
	k.sub(1, 30, 60, 1, 1)
	for _, id := range []int{30, 40, 50} {
		k.do(1, "surface.attach", id, 0, 0, 0)
	}
	k.do(1, "surface.commit", 60)
	k.do(1, "surface.commit", 30)
	k.do(1, "surface.commit", 40)
	k.do(1, "surface.commit", 50)
	k.hush()
	k.do(1, "surface.commit", 60)
	k.told(1, "buffer 49 release", "buffer 39 release", "buffer 29 release")
}

// P26.2: a buffer that was destroyed is not released; it is told of as long as it is held, and not longer.
func TestReleaseOfDestroyed(t *testing.T) {
	k := begin(t, 1)
	k.window(1, 20, 2, 2)
	k.hush()
	k.do(1, "buffer.destroy", 19)
	k.told(1, "display 1 delete_id 19")
	k.sees(view(1020, 1, 0, 0, 2, 2))
	k.d.Tick(0)
	if k.d.Screen()[0] == desk.Back {
		t.Error("it is not shown any more")
	}
	k.hush()
	// Another one by the same object is not the one that is let go.
	k.buffer(1, 19, 1, 1)
	k.do(1, "surface.attach", 20, 19, 0, 0)
	k.do(1, "surface.commit", 20)
	k.quiet()
	k.sees(view(1020, 2, 0, 0, 1, 1))
	k.do(1, "surface.attach", 20, 0, 0, 0)
	k.do(1, "surface.commit", 20)
	k.told(1, "buffer 19 release")
}

// P26.2: a buffer that was destroyed is nobody's, once it is free: who is committed with it later has it, but nothing of it.
func TestReleaseOfPending(t *testing.T) {
	k := begin(t, 1)
	k.window(1, 20, 2, 2)
	k.sub(1, 30, 20, 1, 1)
	k.do(1, "surface.attach", 30, 19, 0, 0)
	k.do(1, "buffer.destroy", 19)
	k.do(1, "surface.attach", 20, 29, 0, 0)
	k.do(1, "surface.commit", 20)
	k.do(1, "surface.commit", 30)
	k.hush()
	k.do(1, "surface.commit", 20)
	k.sees(view(1020, 2, 0, 0, 1, 1), view(1030, 1, 0, 0, 0, 0))
	k.do(1, "surface.attach", 30, 0, 0, 0)
	k.do(1, "surface.commit", 30)
	k.do(1, "surface.commit", 20)
	k.quiet()
	k.sees(view(1020, 2, 0, 0, 1, 1))
}

// P26.2: what a fault says is found through errors.As and errors.Is, and is not shared between two.
func TestFault(t *testing.T) {
	k := begin(t, 1)
	a, b := k.d.Handle(1, raw(8, "pool.resize", 1)), k.d.Handle(1, raw(8, "pool.resize", 1))
	var f, g *api.Fault
	if !errors.As(a, &f) || !errors.As(b, &g) || f == g || *f != *g {
		t.Fatal(a, b)
	}
	if f.Object != 8 || f.Code != 4 || f.Text != "stride" || f.Error() != "stride" || !just(a, api.ErrStride) {
		t.Error(*f)
	}
}

// P26.2, R1, R2: any bytes are done, or are a fault that turns nothing; none makes it panic, and any input does.
func TestAnyBytes(t *testing.T) {
	r := rand.New(rand.NewSource(26))
	for range 4 {
		k := begin(t, 2)
		k.window(1, 20, 2, 2)
		k.sub(1, 30, 20, 1, 1)
		k.do(1, "seat.get_pointer", 6, 40)
		k.do(1, "seat.get_keyboard", 6, 41)
		k.do(1, "compositor.create_region", 3, 42)
		k.hush()
		for range 1500 {
			q := api.Raw{Object: r.Intn(45), Op: r.Intn(7)}
			for range r.Intn(7) {
				q.Body += word(some(r, 0, 1, 2, 3, 4, 9, 19, 20, 29, 30, 42, 43, r.Intn(300), r.Intn(1<<32)))
			}
			if r.Intn(9) == 0 {
				q.Body += "x"
			}
			before := k.state()
			if e := k.d.Handle(1, q); e != nil {
				f, ok := fault.Of(e)
				if !ok || f.Object != q.Object && f.Object != 1 || f.Text != f.Why.Error() || k.state() != before {
					t.Fatal(q, e)
				}
				k.quiet()
			}
			k.told(2)
			n := far()[r.Intn(len(far()))]
			switch r.Intn(60) {
			case 0:
				k.d.Tick(n)
			case 1:
				k.d.Motion(n, r.Intn(3))
			case 2:
				k.d.Button(n, n > 0)
			case 3:
				k.d.Key(n, n > 0)
			case 4:
				k.d.Resize(n, -n)
			case 5:
				k.d.Ping(1)
			}
			k.d.Events(1)
		}
	}
}

// some is one of them.
func some(r *rand.Rand, l ...int) int { return l[r.Intn(len(l))] }
