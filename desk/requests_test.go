package desk_test

import (
	"fmt"
	"math"
	"slices"
	"testing"

	"tableau/api"
	"tableau/desk"
)

// P26.3: sync is done with the last serial, and its callback is an object no more.
func TestSync(t *testing.T) {
	k := begin(t, 1)
	k.do(1, "display.sync", 1, 20)
	k.told(1, "callback 20 done 0", "display 1 delete_id 20")
	if k.d.Face(1, 20) != 0 {
		t.Error(k.d.Face(1, 20))
	}
	k.d.Ping(1)
	k.do(1, "display.sync", 1, 20)
	k.told(1, "wm_base 7 ping 1", "callback 20 done 1", "display 1 delete_id 20")
	k.serial(1)
}

// P26.3: a registry is told of the five globals.
func TestGlobals(t *testing.T) {
	k := begin(t, 1)
	k.do(1, "display.get_registry", 1, 20)
	k.told(1, "registry 20 global 1 wl_compositor 4", "registry 20 global 2 wl_shm 1", "registry 20 global 3 wl_subcompositor 1", "registry 20 global 4 wl_seat 5", "registry 20 global 5 xdg_wm_base 1")
}

// P26.3: bind takes just the names, each with its own interface, in versions from 1 to its own.
func TestBind(t *testing.T) {
	k := begin(t, 1)
	names := []string{"", "wl_compositor", "wl_shm", "wl_subcompositor", "wl_seat", "xdg_wm_base", "wl_surface", "wl_display", "wl_comp", "wl_seat2"}
	most := []int{0, 4, 1, 1, 5, 1}
	face := []int{0, api.Compositor, api.Shm, api.Subcompositor, api.Seat, api.WmBase}
	greeting := []string{2: "shm 30 format 0 shm 30 format 1", 4: "seat 30 capabilities 3", 5: ""}
	for _, name := range []int{0, 1, 2, 3, 4, 5, 6, 7, 1 << 31, 1<<32 - 1} {
		for i, text := range names {
			for _, version := range []int{0, 1, 2, 4, 5, 6, 1<<32 - 1} {
				if name != i || name < 1 || name > 5 || version < 1 || version > most[name] {
					k.bad(api.ErrArg, 1, "registry.bind", 2, name, text, version, 30)
					// That is asked ahead of the number.
					k.bad(api.ErrArg, 1, "registry.bind", 2, name, text, version, 2)
					continue
				}
				k.wrong(1, raw(2, "registry.bind", name, text, version, 2), 1, api.ErrObject)
				c, _ := k.d.Connect()
				k.do(c, "display.get_registry", 1, 9)
				k.d.Events(c)
				k.do(c, "registry.bind", 9, name, text, version, 30)
				got := ""
				for _, s := range lines(k.d.Events(c)) {
					got += " " + s
				}
				if k.d.Face(c, 30) != face[name] || got != "" && got[1:] != greeting[name] || got == "" && greeting[name] != "" {
					t.Error(name, text, version, got)
				}
				k = begin(t, 1)
			}
		}
	}
}

// P26.3: surfaces are forest's: there are MaxSurface at most, of all clients.
func TestCreateSurface(t *testing.T) {
	k := begin(t, 2)
	for i := range 39 {
		k.do(1+i%2, "compositor.create_surface", 3, 20+i)
	}
	k.do(1, "compositor.create_surface", 3, 100)
	k.bad(api.ErrBig, 1, "compositor.create_surface", 3, 101)
	k.bad(api.ErrBig, 2, "compositor.create_surface", 3, 101)
	k.do(1, "compositor.create_region", 3, 101)
}

// P26.3: pools are pool's, over the client's memory as it is then.
func TestPools(t *testing.T) {
	k := begin(t, 1)
	for _, x := range []struct {
		key, size int
		want      error
	}{{1, 0, api.ErrStride}, {1, -1, api.ErrStride}, {1, 65537, api.ErrStride}, {9, 0, api.ErrStride}, {9, 1, api.ErrFile}, {0, 1, api.ErrFile}, {1, 257, api.ErrFile}, {256, 1, api.ErrFile}, {1<<32 - 1, 1, api.ErrFile}, {9, 65536, api.ErrFile}} {
		k.bad(x.want, 1, "shm.create_pool", 4, 20, x.key, x.size)
	}
	k.do(1, "shm.create_pool", 4, 20, 1, 256)
	k.do(1, "shm.create_pool", 4, 21, 1, 1)
	k.bad(api.ErrFile, 1, "pool.resize", 21, 257)
	k.bad(api.ErrStride, 1, "pool.resize", 21, 0)
	k.bad(api.ErrStride, 1, "pool.resize", 21, 65537)
	k.do(1, "pool.resize", 21, 2)
	k.bad(api.ErrStride, 1, "pool.resize", 21, 1)
	k.do(1, "pool.resize", 21, 2)
	// The memory grows, and shrinks: a pool that is there stays.
	k.memory(1, 1, 300)
	k.do(1, "pool.resize", 21, 300)
	k.memory(1, 1, 8)
	k.bad(api.ErrFile, 1, "pool.resize", 21, 300)
	k.do(1, "pool.create_buffer", 21, 30, 0, 5, 15, 20, 0)
	k.bad(api.ErrFile, 1, "shm.create_pool", 4, 40, 1, 9)
	k.do(1, "shm.create_pool", 4, 40, 1, 8)
}

// P26.3: each pool is over the memory of its own key.
func TestPoolKeys(t *testing.T) {
	k := begin(t, 1)
	k.memory(1, 200, 8)
	k.do(1, "shm.create_pool", 4, 20, 200, 4)
	k.bad(api.ErrFile, 1, "pool.resize", 20, 9)
	k.bad(api.ErrFile, 1, "pool.resize", 8, 257)
	k.do(1, "pool.resize", 20, 8)
	// The pool 20 is another one now, over another memory.
	k.do(1, "pool.destroy", 20)
	k.do(1, "shm.create_pool", 4, 20, 1, 4)
	k.do(1, "pool.resize", 20, 256)
}

// P26.3: buffers are pool's; they stay when their pool goes.
func TestBuffers(t *testing.T) {
	k := begin(t, 1)
	for _, x := range []struct {
		offset, w, h, stride, format int
		want                         error
	}{{0, 1, 1, 4, 2, api.ErrFormat}, {-1, 0, 0, 0, 1<<32 - 1, api.ErrFormat}, {-1, 1, 1, 4, 0, api.ErrStride}, {0, 0, 1, 4, 0, api.ErrStride}, {0, 1, 0, 4, 1, api.ErrStride}, {0, 1, 1, 3, 1, api.ErrStride}, {253, 1, 1, 4, 1, api.ErrStride}, {0, 1, 1, 257, 1, api.ErrStride}, {math.MaxInt32, math.MaxInt32, math.MaxInt32, math.MaxInt32, 0, api.ErrStride}, {0, math.MinInt32, math.MinInt32, math.MinInt32, 0, api.ErrStride}} {
		k.bad(x.want, 1, "pool.create_buffer", 8, 20, x.offset, x.w, x.h, x.stride, x.format)
	}
	k.do(1, "pool.create_buffer", 8, 19, 252, 1, 1, 4, 0)
	k.do(1, "pool.destroy", 8)
	k.do(1, "compositor.create_surface", 3, 20)
	k.toplevel(1, 20)
	k.do(1, "surface.attach", 20, 19, 0, 0)
	k.do(1, "surface.commit", 20)
	k.sees(view(1020, 1, 0, 0, 1, 1))
	k.d.Tick(0)
	// The bytes 252 to 255, over Back: a is nearly all.
	if v := k.d.Screen()[0]; v == desk.Back || v>>24 != 255 {
		t.Errorf("%x", v)
	}
}

// P26.3: a buffer that is destroyed ahead of being committed has no size, and nothing to show; it is held all the same.
func TestDestroyedAhead(t *testing.T) {
	k := begin(t, 1)
	k.window(1, 20, 2, 2)
	k.buffer(1, 30, 2, 2)
	k.do(1, "surface.attach", 20, 30, 0, 0)
	k.do(1, "buffer.destroy", 30)
	k.hush()
	k.do(1, "surface.commit", 20)
	k.told(1, "buffer 19 release")
	k.sees(view(1020, 2, 0, 0, 0, 0))
	k.d.Tick(0)
	if slices.ContainsFunc(k.d.Screen(), func(v uint32) bool { return v != desk.Back }) {
		t.Errorf("%x", k.d.Screen())
	}
	k.do(1, "surface.attach", 20, 0, 0, 0)
	k.do(1, "surface.commit", 20)
	k.quiet()
}

// P26.3: regions are unions and what is left, and are as they are when they are set.
func TestRegions(t *testing.T) {
	k := begin(t, 1)
	k.window(1, 20, 4, 4)
	k.do(1, "seat.get_pointer", 6, 30)
	k.do(1, "compositor.create_region", 3, 40)
	// takes tells at which points of the window the pointer is.
	takes := func() string {
		s := ""
		for y := range 4 {
			for x := range 4 {
				k.d.Motion(100, 100)
				k.d.Events(1)
				k.d.Motion(x, y)
				if len(k.d.Events(1)) > 0 {
					s += fmt.Sprint(" ", x, y)
				}
			}
		}
		return s
	}
	is := func(want string) {
		t.Helper()
		if got := takes(); got != want {
			t.Fatalf("%s, not %s", got, want)
		}
	}
	all := takes()
	if len(all) < 4*16 {
		t.Fatal(all)
	}
	k.do(1, "surface.set_input_region", 20, 40)
	is(all)
	k.do(1, "surface.commit", 20)
	is("")
	k.do(1, "region.add", 40, 0, 0, 2, 1)
	k.do(1, "region.add", 40, 2, 2, 100, 1)
	k.do(1, "region.subtract", 40, 1, 0, 1, 1)
	k.do(1, "surface.set_input_region", 20, 40)
	// What is done to the region from now on is not the surface's.
	k.do(1, "region.add", 40, 0, 0, 4, 4)
	is("")
	k.do(1, "surface.commit", 20)
	is(" 0 0 2 2 3 2")
	k.do(1, "surface.set_input_region", 20, 40)
	k.do(1, "region.subtract", 40, 0, 0, 9, 9)
	k.do(1, "region.add", 40, 3, 3, 1, 1)
	k.do(1, "region.destroy", 40)
	k.do(1, "surface.commit", 20)
	is(all)
	// A new one by that number has nothing; rectangles that have no points turn nothing.
	k.do(1, "compositor.create_region", 3, 40)
	for _, r := range [][4]int{{0, 0, 0, 4}, {0, 0, 4, 0}, {0, 0, -1, 4}, {3, 3, 1, math.MinInt32}, {math.MaxInt32, 0, math.MaxInt32, 4}} {
		k.do(1, "region.add", 40, r[0], r[1], r[2], r[3])
	}
	k.do(1, "region.add", 40, math.MinInt32, 1, math.MaxInt32, 1)
	k.do(1, "surface.set_input_region", 20, 40)
	k.do(1, "surface.commit", 20)
	is("")
	k.do(1, "region.add", 40, -20000000, 1, 20000001, 1)
	k.do(1, "surface.set_input_region", 20, 40)
	k.do(1, "surface.commit", 20)
	is(" 0 1")
	k.hush()
	k.bad(api.ErrObject, 1, "surface.set_input_region", 20, 20)
	k.bad(api.ErrObject, 1, "surface.set_input_region", 20, 99)
	k.bad(api.ErrObject, 1, "surface.set_input_region", 20, 1<<32-1)
	k.do(1, "surface.set_input_region", 20, 0)
	k.do(1, "surface.commit", 20)
	is(all)
}

// P26.3: attach takes a buffer of the client's, or none, at 0, 0; what is not committed turns nothing.
func TestAttach(t *testing.T) {
	k := begin(t, 2)
	k.window(1, 20, 1, 1)
	k.buffer(2, 30, 1, 1)
	k.buffer(1, 31, 2, 2)
	k.hush()
	k.bad(api.ErrArg, 1, "surface.attach", 20, 31, 1, 0)
	k.bad(api.ErrArg, 1, "surface.attach", 20, 31, 0, -1)
	k.bad(api.ErrArg, 1, "surface.attach", 20, 0, math.MinInt32, math.MaxInt32)
	k.bad(api.ErrArg, 1, "surface.attach", 20, 99, 1, 1)
	k.bad(api.ErrObject, 1, "surface.attach", 20, 30, 0, 0)
	k.bad(api.ErrObject, 1, "surface.attach", 20, 20, 0, 0)
	k.bad(api.ErrObject, 1, "surface.attach", 20, 1, 0, 0)
	k.bad(api.ErrObject, 1, "surface.attach", 20, 1<<32-1, 0, 0)
	k.do(1, "surface.attach", 20, 31, 0, 0)
	k.sees(view(1020, 1, 0, 0, 1, 1))
	k.do(1, "surface.commit", 20)
	k.sees(view(1020, 3, 0, 0, 2, 2))
	k.told(1, "buffer 19 release")
	k.do(1, "surface.attach", 20, 0, 0, 0)
	k.do(1, "surface.attach", 20, 19, 0, 0)
	k.do(1, "surface.commit", 20)
	k.sees(view(1020, 1, 0, 0, 1, 1))
	k.told(1, "buffer 31 release")
}

// P26.3: damage is taken, whatever it is, and turns nothing that is seen.
func TestDamage(t *testing.T) {
	k := begin(t, 1)
	k.window(1, 20, 1, 1)
	for _, r := range [][4]int{{0, 0, 1, 1}, {0, 0, 0, 0}, {-5, -5, -5, -5}, {math.MinInt32, math.MinInt32, math.MaxInt32, math.MaxInt32}, {math.MaxInt32, math.MaxInt32, math.MaxInt32, math.MaxInt32}, {0, 0, math.MinInt32, 1}} {
		k.do(1, "surface.damage", 20, r[0], r[1], r[2], r[3])
		k.do(1, "surface.commit", 20)
	}
	k.hush()
	k.sees(view(1020, 1, 0, 0, 1, 1))
}

// P26.3: a window is asked at its first commit, placed when it has acked and has a buffer, and dropped when it has none.
func TestWindow(t *testing.T) {
	k := begin(t, 1)
	k.do(1, "compositor.create_surface", 3, 20)
	k.buffer(1, 19, 2, 2)
	k.do(1, "wm_base.get_xdg_surface", 7, 21, 20)
	k.bad(api.ErrState, 1, "surface.commit", 20)
	k.do(1, "surface.attach", 20, 19, 0, 0)
	k.bad(api.ErrState, 1, "surface.commit", 20)
	k.bad(api.ErrState, 1, "xdg_surface.ack_configure", 21, 0)
	k.do(1, "xdg_surface.get_toplevel", 21, 22)
	k.bad(api.ErrRole, 1, "xdg_surface.get_toplevel", 21, 23)
	k.bad(api.ErrState, 1, "surface.commit", 20)
	k.bad(api.ErrState, 1, "xdg_surface.destroy", 21)
	k.bad(api.ErrSerial, 1, "xdg_surface.ack_configure", 21, 0)
	k.do(1, "surface.attach", 20, 0, 0, 0)
	k.do(1, "surface.commit", 20)
	k.told(1, "toplevel 22 configure 0 0", "xdg_surface 21 configure 1")
	k.do(1, "surface.commit", 20)
	k.quiet()
	k.do(1, "surface.attach", 20, 19, 0, 0)
	k.bad(api.ErrState, 1, "surface.commit", 20)
	k.bad(api.ErrSerial, 1, "xdg_surface.ack_configure", 21, 2)
	k.do(1, "xdg_surface.ack_configure", 21, 1)
	k.bad(api.ErrSerial, 1, "xdg_surface.ack_configure", 21, 1)
	k.sees()
	k.do(1, "surface.commit", 20)
	k.sees(view(1020, 1, 0, 0, 2, 2))
	k.do(1, "surface.commit", 20)
	k.sees(view(1020, 1, 0, 0, 2, 2))
	k.do(1, "surface.attach", 20, 0, 0, 0)
	k.quiet()
	k.do(1, "surface.commit", 20)
	k.told(1, "buffer 19 release")
	k.sees()
	k.do(1, "surface.commit", 20)
	k.told(1, "toplevel 22 configure 0 0", "xdg_surface 21 configure 2")
}

// P26.3: a commit of a window that is refused commits nothing: what was pending is so still.
func TestWindowRefused(t *testing.T) {
	k := begin(t, 1)
	k.surface(1, 20, 1, 1)
	k.do(1, "surface.attach", 20, 0, 0, 0)
	k.toplevel(1, 20)
	k.do(1, "surface.attach", 20, 19, 0, 0)
	k.do(1, "surface.commit", 20)
	k.do(1, "toplevel.destroy", 22)
	k.do(1, "surface.frame", 20, 30)
	k.hush()
	k.bad(api.ErrState, 1, "surface.commit", 20)
	k.do(1, "xdg_surface.get_toplevel", 21, 22)
	k.bad(api.ErrState, 1, "surface.commit", 20)
	k.do(1, "surface.attach", 20, 0, 0, 0)
	k.do(1, "surface.commit", 20)
	k.told(1, "toplevel 22 configure 0 0", "xdg_surface 21 configure 2", "buffer 19 release")
	k.do(1, "xdg_surface.ack_configure", 21, 2)
	k.do(1, "surface.attach", 20, 19, 0, 0)
	k.do(1, "surface.commit", 20)
	k.d.Tick(5)
	k.told(1, "callback 30 done 5", "display 1 delete_id 30")
}

// P26.3: windows are placed one behind the other, of all clients, each time they are; those above are those that were placed later.
func TestPlaces(t *testing.T) {
	k := begin(t, 2)
	for i := range 37 {
		c := 1 + i%2
		k.window(c, 20, 1, 1)
		k.hush()
		l := k.d.Views()
		if len(l) != 1 || l[0].X != 3*(i%7) || l[0].Y != 2*(i%5) || l[0].Surface != 1000*c+20 {
			t.Fatal(i, l)
		}
		k.do(c, "toplevel.destroy", 22)
		k.do(c, "xdg_surface.destroy", 21)
		k.do(c, "surface.destroy", 20)
		k.do(c, "buffer.destroy", 19)
	}
	k.window(1, 20, 1, 1) // the 37th: 2, 2
	k.window(2, 20, 1, 1) // 3, 3
	k.window(1, 30, 1, 1) // 4, 4
	k.sees(view(1020, 38, 6, 4, 1, 1), view(2020, 39, 9, 6, 1, 1), view(1030, 40, 12, 8, 1, 1))
	k.do(1, "surface.attach", 20, 0, 0, 0)
	k.do(1, "surface.commit", 20)
	k.do(1, "surface.commit", 20)
	k.do(1, "xdg_surface.ack_configure", 21, k.d.Serial())
	k.do(1, "surface.attach", 20, 19, 0, 0)
	k.do(1, "surface.commit", 20) // 5, 0
	k.sees(view(2020, 39, 9, 6, 1, 1), view(1030, 40, 12, 8, 1, 1), view(1020, 38, 15, 0, 1, 1))
}

// P26.3: a surface that has a parent, a window's role, a buffer or one to come is made no window.
func TestGetXdgSurface(t *testing.T) {
	k := begin(t, 2)
	for id := 20; id < 26; id++ {
		k.do(1, "compositor.create_surface", 3, id)
	}
	k.do(2, "compositor.create_surface", 3, 40)
	k.buffer(1, 19, 1, 1)
	k.bad(api.ErrObject, 1, "wm_base.get_xdg_surface", 7, 30, 19)
	k.bad(api.ErrObject, 1, "wm_base.get_xdg_surface", 7, 30, 0)
	k.bad(api.ErrObject, 1, "wm_base.get_xdg_surface", 7, 30, 40)
	k.do(1, "subcompositor.get_subsurface", 5, 31, 21, 20)
	k.bad(api.ErrRole, 1, "wm_base.get_xdg_surface", 7, 30, 21)
	// A parent is told of ahead of a buffer; one that had a parent may be a window.
	k.do(1, "surface.attach", 21, 19, 0, 0)
	k.bad(api.ErrRole, 1, "wm_base.get_xdg_surface", 7, 30, 21)
	k.do(1, "surface.commit", 21)
	k.do(1, "subsurface.destroy", 31)
	k.hush()
	k.bad(api.ErrState, 1, "wm_base.get_xdg_surface", 7, 30, 21)
	// Pending alone; current alone; current, and none to come.
	k.do(1, "surface.attach", 22, 19, 0, 0)
	k.bad(api.ErrState, 1, "wm_base.get_xdg_surface", 7, 30, 22)
	k.do(1, "surface.commit", 22)
	k.bad(api.ErrState, 1, "wm_base.get_xdg_surface", 7, 30, 22)
	k.do(1, "surface.attach", 22, 0, 0, 0)
	k.bad(api.ErrState, 1, "wm_base.get_xdg_surface", 7, 30, 22)
	k.do(1, "surface.commit", 22)
	k.told(1)
	k.do(1, "wm_base.get_xdg_surface", 7, 30, 22)
	k.bad(api.ErrRole, 1, "wm_base.get_xdg_surface", 7, 32, 22)
	// A cached one that is to be none, by what is pending, does not come.
	k.do(1, "surface.attach", 21, 0, 0, 0)
	k.do(1, "wm_base.get_xdg_surface", 7, 33, 21)
	// Who is a parent may be a window.
	k.do(1, "subcompositor.get_subsurface", 5, 34, 23, 20)
	k.do(1, "wm_base.get_xdg_surface", 7, 35, 20)
	k.do(1, "xdg_surface.destroy", 35)
	k.do(1, "wm_base.get_xdg_surface", 7, 35, 20)
}

// P26.3: a window's errors are shell's, and each window has its own parts.
func TestParts(t *testing.T) {
	k := begin(t, 1)
	k.window(1, 20, 1, 1)
	k.window(1, 30, 1, 1)
	k.hush()
	k.d.Resize(3, 4)
	k.told(1, "toplevel 32 configure 3 4", "xdg_surface 31 configure 3")
	k.bad(api.ErrSerial, 1, "xdg_surface.ack_configure", 21, 3)
	k.do(1, "xdg_surface.ack_configure", 31, 3)
	k.do(1, "toplevel.destroy", 32)
	k.told(1, "display 1 delete_id 32")
	k.sees(view(1020, 1, 0, 0, 1, 1))
	k.d.Resize(5, 6)
	k.told(1, "toplevel 22 configure 5 6", "xdg_surface 21 configure 4")
	// The toplevel 32 is another window's now.
	k.do(1, "toplevel.destroy", 22)
	k.do(1, "xdg_surface.get_toplevel", 21, 32)
	k.do(1, "surface.attach", 20, 0, 0, 0)
	k.do(1, "surface.commit", 20)
	k.told(1, "display 1 delete_id 22", "toplevel 32 configure 0 0", "xdg_surface 21 configure 5", "buffer 19 release")
	k.bad(api.ErrSerial, 1, "xdg_surface.ack_configure", 21, 4)
	k.bad(api.ErrState, 1, "xdg_surface.ack_configure", 31, 5)
	k.do(1, "xdg_surface.ack_configure", 21, 5)
}

// P26.3: acking a later serial acks those ahead of it.
func TestAck(t *testing.T) {
	k := begin(t, 1)
	k.window(1, 20, 1, 1)
	for n := range 4 {
		k.d.Resize(n, n)
	}
	k.hush()
	k.do(1, "xdg_surface.ack_configure", 21, 4)
	k.bad(api.ErrSerial, 1, "xdg_surface.ack_configure", 21, 3)
	k.bad(api.ErrSerial, 1, "xdg_surface.ack_configure", 21, 1<<32-1)
	k.do(1, "xdg_surface.ack_configure", 21, 5)
}

// P26.3: a surface is destroyed, unless it is a window; it may be the parent of others.
func TestDestroySurface(t *testing.T) {
	k := begin(t, 1)
	k.window(1, 20, 4, 4)
	k.sub(1, 30, 20, 2, 2)
	k.sub(1, 40, 30, 1, 1)
	k.do(1, "surface.commit", 30)
	k.do(1, "surface.commit", 20)
	k.sees(view(1020, 1, 0, 0, 4, 4), view(1030, 2, 0, 0, 2, 2), view(1040, 3, 0, 0, 1, 1))
	k.hush()
	k.bad(api.ErrRole, 1, "surface.destroy", 20)
	k.do(1, "surface.destroy", 30)
	k.sees(view(1020, 1, 0, 0, 4, 4))
	k.told(1, "display 1 delete_id 30", "buffer 29 release")
	k.do(1, "toplevel.destroy", 22)
	k.told(1, "display 1 delete_id 22")
	k.bad(api.ErrRole, 1, "surface.destroy", 20)
	k.do(1, "xdg_surface.destroy", 21)
	k.do(1, "surface.destroy", 20)
	k.told(1, "display 1 delete_id 21", "display 1 delete_id 20", "buffer 19 release")
}

// P26.3: who has a focus and is destroyed is told of nothing any more.
func TestDestroyFocus(t *testing.T) {
	k := begin(t, 1)
	k.window(1, 20, 4, 4)
	k.sub(1, 30, 20, 2, 2)
	k.do(1, "surface.commit", 20)
	k.do(1, "seat.get_pointer", 6, 50)
	k.do(1, "seat.get_keyboard", 6, 51)
	k.hush()
	k.d.Tick(0)
	k.told(1, "pointer 50 enter 2 30 0 0", "keyboard 51 enter 3 20")
	k.do(1, "surface.destroy", 30)
	k.hush()
	k.d.Button(1, true)
	k.quiet()
	k.serial(3)
	k.d.Tick(0)
	k.told(1, "pointer 50 enter 4 20 0 0")
	k.do(1, "toplevel.destroy", 22)
	k.do(1, "xdg_surface.destroy", 21)
	k.hush()
	// It has both still: it is a surface, though not seen.
	k.d.Button(1, true)
	k.d.Key(2, true)
	k.told(1, "pointer 50 button 5 0 1 1", "keyboard 51 key 6 0 2 1")
	k.do(1, "surface.destroy", 20)
	k.hush()
	k.d.Button(1, true)
	k.d.Key(2, true)
	k.d.Tick(0)
	k.quiet()
	k.serial(6)
}

// P26.3: get_subsurface wants both surfaces, no window as the first one, and what forest's Sub wants.
func TestGetSubsurface(t *testing.T) {
	k := begin(t, 2)
	for id := 20; id < 26; id++ {
		k.do(1, "compositor.create_surface", 3, id)
	}
	k.do(2, "compositor.create_surface", 3, 40)
	k.do(1, "wm_base.get_xdg_surface", 7, 30, 20)
	for _, x := range []struct {
		surface, parent int
		want            error
	}{
		{0, 21, api.ErrObject}, {21, 0, api.ErrObject}, {40, 21, api.ErrObject}, {21, 40, api.ErrObject}, {3, 21, api.ErrObject}, {21, 3, api.ErrObject},
		{20, 99, api.ErrObject}, {99, 20, api.ErrObject}, {21, 21, api.ErrPlace}, {20, 21, api.ErrRole}, {20, 20, api.ErrRole},
	} {
		k.bad(x.want, 1, "subcompositor.get_subsurface", 5, 31, x.surface, x.parent)
	}
	k.do(1, "subcompositor.get_subsurface", 5, 31, 21, 20)
	k.bad(api.ErrRole, 1, "subcompositor.get_subsurface", 5, 32, 21, 22)
	k.do(1, "subcompositor.get_subsurface", 5, 32, 22, 21)
	k.bad(api.ErrPlace, 1, "subcompositor.get_subsurface", 5, 33, 23, 23)
	k.bad(api.ErrRole, 1, "subcompositor.get_subsurface", 5, 33, 21, 22)
	k.do(1, "subsurface.destroy", 31)
	k.hush()
	k.bad(api.ErrPlace, 1, "subcompositor.get_subsurface", 5, 33, 21, 22)
	k.do(1, "subcompositor.get_subsurface", 5, 31, 21, 23)
}

// P26.3: what a subsurface is asked is forest's.
func TestSubsurface(t *testing.T) {
	k := begin(t, 1)
	k.window(1, 20, 8, 8)
	k.sub(1, 30, 20, 1, 1)
	k.sub(1, 40, 20, 2, 2)
	k.do(1, "compositor.create_surface", 3, 50)
	k.do(1, "surface.commit", 20)
	k.hush()
	a, b, c := view(1020, 1, 0, 0, 8, 8), view(1030, 2, 0, 0, 1, 1), view(1040, 3, 0, 0, 2, 2)
	k.sees(a, b, c)
	// Places and orders wait for the parent.
	k.do(1, "subsurface.set_position", 31, 3, -4)
	k.do(1, "subsurface.place_above", 31, 40)
	k.sees(a, b, c)
	k.do(1, "surface.commit", 30)
	k.sees(a, b, c)
	k.do(1, "surface.commit", 20)
	b.X, b.Y = 3, -4
	k.sees(a, c, b)
	k.do(1, "subsurface.place_below", 31, 20)
	k.do(1, "subsurface.set_position", 41, math.MaxInt32, math.MinInt32)
	k.do(1, "surface.commit", 20)
	c.X, c.Y = 1<<24, -1<<24
	k.sees(b, a, c)
	for _, name := range []string{"subsurface.place_above", "subsurface.place_below"} {
		k.bad(api.ErrObject, 1, name, 31, 0)
		k.bad(api.ErrObject, 1, name, 31, 31)
		k.bad(api.ErrObject, 1, name, 31, 99)
		k.bad(api.ErrPlace, 1, name, 31, 30)
		k.bad(api.ErrPlace, 1, name, 31, 50)
	}
	// Desync: its commits wait no more; sync: they do.
	k.do(1, "subsurface.set_desync", 31)
	k.do(1, "surface.attach", 30, 39, 0, 0)
	k.do(1, "surface.commit", 30)
	b = view(1030, 3, 3, -4, 2, 2)
	k.sees(b, a, c)
	k.told(1, "buffer 29 release")
	k.do(1, "subsurface.set_sync", 31)
	k.do(1, "surface.attach", 30, 29, 0, 0)
	k.do(1, "surface.commit", 30)
	k.sees(b, a, c)
	k.do(1, "surface.commit", 20)
	b = view(1030, 2, 3, -4, 1, 1)
	k.sees(b, a, c)
	// What was destroyed is out of its parent at once, and is seen nowhere.
	k.do(1, "subsurface.destroy", 41)
	k.sees(b, a)
	k.told(1, "display 1 delete_id 41")
	k.do(1, "subcompositor.get_subsurface", 5, 41, 40, 30)
	k.do(1, "surface.commit", 30)
	k.do(1, "surface.commit", 20)
	k.sees(b, view(1040, 3, 3, -4, 2, 2), a)
}

// P26.3: a subsurface whose surface, or whose parent, was destroyed does nothing any more, whatever it is asked, also when the numbers come again.
func TestSubsurfaceOfNothing(t *testing.T) {
	for _, gone := range []int{30, 20} {
		k := begin(t, 1)
		for _, id := range []int{20, 30} {
			k.surface(1, id, 1, 1)
			k.do(1, "surface.commit", id)
		}
		k.do(1, "subcompositor.get_subsurface", 5, 31, 30, 20)
		k.do(1, "surface.destroy", gone)
		k.do(1, "compositor.create_surface", 3, gone)
		k.do(1, "subcompositor.get_subsurface", 5, 41, 30, 20)
		k.do(1, "compositor.create_surface", 3, 60)
		k.do(1, "subcompositor.get_subsurface", 5, 61, 60, 20)
		k.hush()
		idle := func() {
			t.Helper()
			k.do(1, "subsurface.set_position", 31, 5, 5)
			for _, by := range []int{0, 20, 30, 60, 99, 3} {
				k.do(1, "subsurface.place_above", 31, by)
				k.do(1, "subsurface.place_below", 31, by)
			}
			k.do(1, "subsurface.set_desync", 31)
			k.quiet()
		}
		idle()
		k.wrong(1, api.Raw{Object: 31, Op: 6}, 31, api.ErrMethod)
		k.wrong(1, api.Raw{Object: 31, Op: 4, Body: "x"}, 31, api.ErrBytes)
		// 30 is where it was, below 60, and sync, by its new subsurface.
		k.do(1, "surface.attach", 20, 0, 0, 0)
		k.do(1, "surface.commit", 20)
		k.toplevel(1, 20)
		k.buffer(1, 90, 3, 3)
		for _, id := range []int{20, 30, 60} {
			k.do(1, "surface.attach", id, 90, 0, 0)
			k.do(1, "surface.commit", id)
		}
		k.hush()
		idle()
		k.do(1, "surface.commit", 20)
		n := k.d.Views()[0].Buffer
		k.sees(view(1020, n, 0, 0, 3, 3), view(1030, n, 0, 0, 3, 3), view(1060, n, 0, 0, 3, 3))
		k.hush()
		k.do(1, "subsurface.destroy", 31)
		k.told(1, "display 1 delete_id 31")
		k.sees(view(1020, n, 0, 0, 3, 3), view(1030, n, 0, 0, 3, 3), view(1060, n, 0, 0, 3, 3))
		k.do(1, "subsurface.destroy", 41)
		k.sees(view(1020, n, 0, 0, 3, 3), view(1060, n, 0, 0, 3, 3))
	}
}

// P26.3: a pong of what waits ends the waiting; others are taken, and do nothing.
func TestPong(t *testing.T) {
	k := begin(t, 2)
	k.d.Ping(1)
	k.d.Ping(2)
	k.hush()
	for _, n := range []int{0, 2, 3, 1<<32 - 1} {
		k.do(1, "wm_base.pong", 7, n)
	}
	k.d.Ping(1)
	k.quiet()
	k.do(1, "wm_base.pong", 7, 1)
	k.do(1, "wm_base.pong", 7, 1)
	k.d.Ping(1)
	k.told(1, "wm_base 7 ping 3")
	// Any wm_base will do.
	k.do(1, "registry.bind", 2, 5, "xdg_wm_base", 1, 40)
	k.do(1, "wm_base.destroy", 7)
	k.do(1, "wm_base.pong", 40, 3)
	k.hush()
	k.d.Ping(1)
	k.told(1, "wm_base 40 ping 4")
}
