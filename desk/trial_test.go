package desk_test

import (
	"errors"
	"fmt"
	"math"
	"slices"
	"strconv"
	"strings"
	"testing"

	"tableau/api"
	"tableau/desk"
	"tableau/fault"
)

// known are all errors there are: an answer must be just one of them.
var known = []error{
	api.ErrArg, api.ErrShort, api.ErrBytes, api.ErrBig, api.ErrObject, api.ErrMethod, api.ErrFormat, api.ErrStride,
	api.ErrFile, api.ErrRole, api.ErrPlace, api.ErrState, api.ErrSerial, api.ErrFull, api.ErrGone, api.ErrSheet,
}

// just tells whether e is want, and none of the others.
func just(e, want error) bool {
	for _, k := range known {
		if errors.Is(e, k) != (k == want) {
			return false
		}
	}
	return (e == nil) == (want == nil)
}

// code is the code of an error, spelt without the packages.
func code(e error) int {
	switch e {
	case api.ErrObject, api.ErrArg:
		return 0
	case api.ErrMethod, api.ErrBytes, api.ErrShort:
		return 1
	case api.ErrBig, api.ErrFull:
		return 2
	case api.ErrFormat:
		return 3
	case api.ErrStride:
		return 4
	case api.ErrFile:
		return 5
	case api.ErrRole:
		return 6
	case api.ErrPlace:
		return 7
	case api.ErrState:
		return 8
	case api.ErrSerial:
		return 9
	}
	return 10
}

// far are numbers at the ends of what a number may be, and about 0.
func far() []int {
	l := []int{-1 << 32, 1 << 32, math.MinInt32, math.MaxInt32, 1 << 24, 1<<24 + 1, -1 << 24, -1<<24 - 1, 1000, 1001, 7001}
	for n := range 8 {
		l = append(l, n, -n, math.MinInt+n, math.MaxInt-n)
	}
	return l
}

// form is a request's number, and the kinds of its arguments.
type form struct {
	op      int
	letters string
}

// forms are all requests, spelt without the packages.
var forms = map[string]form{
	"display.sync": {0, "n"}, "display.get_registry": {1, "n"},
	"registry.bind":             {0, "usun"},
	"compositor.create_surface": {0, "n"}, "compositor.create_region": {1, "n"},
	"shm.create_pool":    {0, "nui"},
	"pool.create_buffer": {0, "niiiiu"}, "pool.destroy": {1, ""}, "pool.resize": {2, "i"},
	"buffer.destroy":  {0, ""},
	"surface.destroy": {0, ""}, "surface.attach": {1, "oii"}, "surface.damage": {2, "iiii"}, "surface.frame": {3, "n"}, "surface.set_input_region": {4, "o"}, "surface.commit": {5, ""},
	"region.destroy": {0, ""}, "region.add": {1, "iiii"}, "region.subtract": {2, "iiii"},
	"subcompositor.destroy": {0, ""}, "subcompositor.get_subsurface": {1, "noo"},
	"subsurface.destroy": {0, ""}, "subsurface.set_position": {1, "ii"}, "subsurface.place_above": {2, "o"}, "subsurface.place_below": {3, "o"}, "subsurface.set_sync": {4, ""}, "subsurface.set_desync": {5, ""},
	"seat.get_pointer": {0, "n"}, "seat.get_keyboard": {1, "n"},
	"pointer.release":  {0, ""},
	"keyboard.release": {0, ""},
	"wm_base.destroy":  {0, ""}, "wm_base.get_xdg_surface": {1, "no"}, "wm_base.pong": {2, "u"},
	"xdg_surface.destroy": {0, ""}, "xdg_surface.get_toplevel": {1, "n"}, "xdg_surface.ack_configure": {2, "u"},
	"toplevel.destroy": {0, ""}, "toplevel.set_title": {1, "s"},
}

// faces are the interfaces' short names, from 1 on.
var faces = strings.Fields("display registry callback compositor shm pool buffer surface region subcompositor subsurface seat pointer keyboard wm_base xdg_surface toplevel")

// events are the names of each interface's events, with the kinds of their arguments.
var events = map[string][]string{
	"display": {"error ous", "delete_id u"}, "registry": {"global usu"}, "callback": {"done u"}, "shm": {"format u"}, "buffer": {"release "},
	"seat": {"capabilities u"}, "pointer": {"enter uoff", "leave uo", "motion uff", "button uuuu"}, "keyboard": {"enter uo", "leave uo", "key uuuu"},
	"wm_base": {"ping u"}, "xdg_surface": {"configure u"}, "toplevel": {"configure ii", "close "},
}

// word is a number's four bytes.
func word(n int) string {
	v := uint32(n)
	return string([]byte{byte(v), byte(v >> 8), byte(v >> 16), byte(v >> 24)})
}

// body is the bytes of a request's arguments.
func body(args []any) string {
	var b strings.Builder
	for _, a := range args {
		switch a := a.(type) {
		case int:
			b.WriteString(word(a))
		case string:
			b.WriteString(word(len(a)+1) + a + strings.Repeat("\x00", 4-len(a)%4))
		}
	}
	return b.String()
}

// raw is a request, by its name.
func raw(object int, name string, args ...any) api.Raw {
	f, ok := forms[name]
	if !ok || len(f.letters) != len(args) {
		panic(name)
	}
	return api.Raw{Object: object, Op: f.op, Body: body(args)}
}

// line is an event as a text: its interface and object, its name, its arguments.
func line(e desk.Event) string {
	face := faces[e.Face-1]
	name, letters, _ := strings.Cut(events[face][e.Msg.Op], " ")
	s := fmt.Sprint(face, " ", e.Msg.Object, " ", name)
	if len(letters) != len(e.Msg.Args) {
		return s + " with other arguments"
	}
	for i, a := range e.Msg.Args {
		switch {
		case a.Kind != letters[i]:
			s += " of another kind"
		case a.Kind == 's' && a.N == 0:
			s += " " + a.S
		case a.Kind != 's' && a.S == "":
			s += fmt.Sprint(" ", a.N)
		default:
			s += " with too much in it"
		}
	}
	return s
}

// lines are events as texts.
func lines(l []desk.Event) []string {
	var said []string
	for _, e := range l {
		said = append(said, line(e))
	}
	return said
}

// trial is a desk that is tried out.
type trial struct {
	*testing.T
	d *desk.Desk
}

// begin is a desk with a screen of 16 by 12, and so many clients. Each has the registry 2, and the compositor 3, shm 4, subcompositor 5, seat 6, wm_base 7; the memory 1 of 256 bytes, the pool 8 over it.
func begin(t *testing.T, clients int) *trial {
	t.Helper()
	d, e := desk.New(16, 12)
	if e != nil {
		t.Fatal(e)
	}
	k := &trial{t, d}
	for range clients {
		k.join()
	}
	return k
}

// join is one client more.
func (k *trial) join() int {
	k.Helper()
	c, e := k.d.Connect()
	if e != nil {
		k.Fatal(e)
	}
	k.do(c, "display.get_registry", 1, 2)
	for i, name := range []string{"wl_compositor", "wl_shm", "wl_subcompositor", "wl_seat", "xdg_wm_base"} {
		k.do(c, "registry.bind", 2, i+1, name, 1, 3+i)
	}
	k.memory(c, 1, 256)
	k.do(c, "shm.create_pool", 4, 8, 1, 256)
	k.d.Events(c)
	return c
}

// memory is a memory of a client's, with the bytes 0, 1, 2, ..
func (k *trial) memory(c, key, size int) {
	k.Helper()
	b := make([]byte, size)
	for i := range b {
		b[i] = byte(i)
	}
	if e := k.d.Memory(c, key, size); e != nil {
		k.Fatal(e)
	}
	if e := k.d.Write(c, key, 0, b); e != nil {
		k.Fatal(e)
	}
}

// do does a request that is right.
func (k *trial) do(c int, name string, object int, args ...any) {
	k.Helper()
	if e := k.d.Handle(c, raw(object, name, args...)); e != nil {
		k.Fatalf("%s of %d %v: %v", name, object, args, e)
	}
}

// state is what can be told of a desk without turning it.
func (k *trial) state() string {
	var s strings.Builder
	fmt.Fprint(&s, k.d.Serial(), k.d.Views(), k.d.Screen())
	for c := range api.MaxClients + 2 {
		for id := range api.MaxObjects + 2 {
			fmt.Fprint(&s, " ", k.d.Face(c, id))
		}
	}
	return s.String()
}

// wrong does a request that is none: it is a fault of that object, by that error, and turns nothing; nobody is told anything.
func (k *trial) wrong(c int, r api.Raw, at int, why error) {
	k.Helper()
	k.quiet()
	before := k.state()
	e := k.d.Handle(c, r)
	f, ok := fault.Of(e)
	if !ok || f.Object != at || f.Code != code(why) || f.Text != why.Error() || !just(e, why) || !just(f.Why, why) {
		k.Fatalf("%v: %v (%v), not %v of %d", r, f, e, why, at)
	}
	if after := k.state(); after != before {
		k.Fatalf("%v: %s\nis now %s", r, before, after)
	}
	k.quiet()
}

// bad does a request that is wrong by its own object.
func (k *trial) bad(why error, c int, name string, object int, args ...any) {
	k.Helper()
	k.wrong(c, raw(object, name, args...), object, why)
}

// told wants a client to have been told these events.
func (k *trial) told(c int, want ...string) {
	k.Helper()
	if got := lines(k.d.Events(c)); !slices.Equal(got, want) {
		k.Fatalf("client %d is told\n%s\nnot\n%s", c, strings.Join(got, "\n"), strings.Join(want, "\n"))
	}
}

// quiet wants nobody to have been told anything.
func (k *trial) quiet() {
	k.Helper()
	for c := range api.MaxClients + 2 {
		k.told(c)
	}
}

// hush takes what all clients were told.
func (k *trial) hush() {
	for c := range api.MaxClients + 2 {
		k.d.Events(c)
	}
}

// sees wants these views.
func (k *trial) sees(want ...api.View) {
	k.Helper()
	if got := k.d.Views(); !slices.Equal(got, want) {
		k.Fatalf("seen: %v, not %v", got, want)
	}
}

// serial wants this to be the last serial.
func (k *trial) serial(want int) {
	k.Helper()
	if got := k.d.Serial(); got != want {
		k.Fatalf("serial %d, not %d", got, want)
	}
}

// buffer makes a buffer of w by h over the pool 8, from its beginning on.
func (k *trial) buffer(c, id, w, h int) {
	k.Helper()
	k.do(c, "pool.create_buffer", 8, id, 0, w, h, 4*w, api.Xrgb)
}

// surface makes a surface, and a buffer of w by h, one number ahead of it, which it is to have.
func (k *trial) surface(c, id, w, h int) {
	k.Helper()
	k.do(c, "compositor.create_surface", 3, id)
	k.buffer(c, id-1, w, h)
	k.do(c, "surface.attach", id, id-1, 0, 0)
}

// toplevel makes a surface a toplevel that is ready, by an xdg_surface and a toplevel of the next two numbers.
func (k *trial) toplevel(c, id int) {
	k.Helper()
	k.do(c, "wm_base.get_xdg_surface", 7, id+1, id)
	k.do(c, "xdg_surface.get_toplevel", id+1, id+2)
	k.do(c, "surface.commit", id)
	k.do(c, "xdg_surface.ack_configure", id+1, k.d.Serial())
}

// window makes a window that is shown. Of 20 that is: the buffer 19 of w by h, the surface 20, the xdg_surface 21, the toplevel 22.
func (k *trial) window(c, id, w, h int) {
	k.Helper()
	k.do(c, "compositor.create_surface", 3, id)
	k.buffer(c, id-1, w, h)
	k.toplevel(c, id)
	k.do(c, "surface.attach", id, id-1, 0, 0)
	k.do(c, "surface.commit", id)
}

// sub makes a subsurface of a parent. Of 30 that is: the buffer 29 of w by h, committed, the surface 30, the subsurface 31.
func (k *trial) sub(c, id, parent, w, h int) {
	k.Helper()
	k.surface(c, id, w, h)
	k.do(c, "subcompositor.get_subsurface", 5, id+1, id, parent)
	k.do(c, "surface.commit", id)
}

// view is a view of a client's surface.
func view(surface, buffer, x, y, w, h int) api.View {
	return api.View{Surface: surface, Buffer: buffer, X: x, Y: y, W: w, H: h}
}

// num is a number as a text.
func num(n int) string { return strconv.Itoa(n) }
