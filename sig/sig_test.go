package sig_test

import (
	"errors"
	"math"
	"strings"
	"testing"

	"tableau/api"
	"tableau/sig"
)

// known are all errors there are: an answer must be just one of them.
var known = []error{
	api.ErrArg, api.ErrShort, api.ErrBytes, api.ErrBig, api.ErrObject, api.ErrMethod, api.ErrFormat, api.ErrStride,
	api.ErrFile, api.ErrRole, api.ErrPlace, api.ErrState, api.ErrSerial, api.ErrFull, api.ErrGone, api.ErrSheet,
}

// just tells whether e is want, and none of the others.
func just(e, want error) bool {
	for _, k := range known {
		if errors.Is(e, k) != (k == want) {
			return false
		}
	}
	return want != nil || e == nil
}

// face is a row of the chapter's table: requests and events as it writes them, and what P3.2 calls them.
type face struct {
	name, requests, events string
	called, told           string
}

// chapter is the chapter's table, from face 1 on.
var chapter = []face{
	{"wl_display", "n (3), n (2)", "ous, u", "sync, get_registry", "error, delete_id"},
	{"wl_registry", "usun", "usu", "bind", "global"},
	{"wl_callback", "", "u", "", "done"},
	{"wl_compositor", "n (8), n (9)", "", "create_surface, create_region", ""},
	{"wl_shm", "nui (6)", "u", "create_pool", "format"},
	{"wl_shm_pool", "niiiiu (7), (empty; E), i", "", "create_buffer, destroy, resize", ""},
	{"wl_buffer", "(empty; E)", "(empty)", "destroy", "release"},
	{"wl_surface", "(empty; E), oii, iiii, n (3), o, (empty)", "", "destroy, attach, damage, frame, set_input_region, commit", ""},
	{"wl_region", "(empty; E), iiii, iiii", "", "destroy, add, subtract", ""},
	{"wl_subcompositor", "(empty; E), noo (11)", "", "destroy, get_subsurface", ""},
	{"wl_subsurface", "(empty; E), ii, o, o, (empty), (empty)", "", "destroy, set_position, place_above, place_below, set_sync, set_desync", ""},
	{"wl_seat", "n (13), n (14)", "u", "get_pointer, get_keyboard", "capabilities"},
	{"wl_pointer", "(empty; E)", "uoff, uo, uff, uuuu", "release", "enter, leave, motion, button"},
	{"wl_keyboard", "(empty; E)", "uo, uo, uuuu", "release", "enter, leave, key"},
	{"xdg_wm_base", "(empty; E), no (16), u", "u", "destroy, get_xdg_surface, pong", "ping"},
	{"xdg_surface", "(empty; E), n (17), u", "u", "destroy, get_toplevel, ack_configure", "configure"},
	{"xdg_toplevel", "(empty; E), s", "ii, (empty)", "destroy, set_title", "configure, close"},
}

// row is the chapter's row of a face; an empty one of none.
func row(n int) face {
	if n < 1 || n > len(chapter) {
		return face{}
	}
	return chapter[n-1]
}

// parts are the parts of a list with commas; none of an empty one.
func parts(s string) []string {
	if s == "" {
		return nil
	}
	return strings.Split(s, ", ")
}

// entry is what the chapter says of a request or an event.
type entry struct {
	letters string
	makes   int
	ends    bool
}

// read reads an entry of the chapter's table.
func read(s string) entry {
	if s == "(empty)" {
		return entry{}
	}
	if s == "(empty; E)" {
		return entry{ends: true}
	}
	letters, made, _ := strings.Cut(s, " ")
	e := entry{letters: letters}
	for _, c := range strings.Trim(made, "()") {
		e.makes = 10*e.makes + int(c-'0')
	}
	return e
}

// find is the entry of a list, if there is one.
func find(list string, op int) (entry, error) {
	p := parts(list)
	if op < 0 || op >= len(p) {
		return entry{}, api.ErrMethod
	}
	return read(p[op]), nil
}

// asked are the numbers that are asked for: around what there is, and far off, also where a number that is cut to fewer bits would come back to what there is.
func asked(most int) []int {
	list := []int{math.MinInt, math.MinInt + 1, math.MinInt32, -1 << 32, -256, -18, -17, -8, math.MaxInt - 1, math.MaxInt, math.MaxInt32, math.MaxUint32, 255, 256, 257, 264, 65536, 65537, 1<<32 + 1, 1<<32 + 8, 1<<62 + 1}
	for n := -3; n <= most; n++ {
		list = append(list, n)
	}
	return list
}

func TestRequestsAndEventsAreTheTables(t *testing.T) {
	for _, f := range asked(40) {
		for _, op := range asked(40) {
			want, none := find(row(f).requests, op)
			if s, e := sig.Request(f, op); s != want.letters || !just(e, none) {
				t.Errorf("Request(%d, %d): %q, %v", f, op, s, e)
			}
			if m := sig.Makes(f, op); m != want.makes {
				t.Errorf("Makes(%d, %d): %d", f, op, m)
			}
			if ends := sig.Ends(f, op); ends != want.ends {
				t.Errorf("Ends(%d, %d): %v", f, op, ends)
			}
			want, none = find(row(f).events, op)
			if s, e := sig.Event(f, op); s != want.letters || !just(e, none) {
				t.Errorf("Event(%d, %d): %q, %v", f, op, s, e)
			}
		}
	}
}

func TestNamesAreTheTables(t *testing.T) {
	for _, f := range asked(40) {
		if s := sig.Name(f); s != row(f).name {
			t.Errorf("Name(%d): %q", f, s)
		}
	}
	for i, r := range chapter {
		if f := sig.Face(r.name); f != i+1 {
			t.Errorf("Face(%q): %d", r.name, f)
		}
	}
}

func TestFaceOfNoNameIsNone(t *testing.T) {
	none := []string{"", " ", "\x00", "wl", "wl_", "wl_shell", "wl_output", "xdg_popup", "display", "surface", "xdg_wm_bas", "WL_DISPLAY", "Wl_seat", "wl-seat", "1", "8", strings.Repeat("wl_seat", 1000)}
	for _, r := range chapter {
		none = append(none, r.name+" ", " "+r.name, r.name+"\x00", r.name+r.name, r.name[1:], r.name[:len(r.name)-1], strings.ToUpper(r.name))
	}
	for _, s := range none {
		if f := sig.Face(s); f != 0 {
			t.Errorf("Face(%q): %d", s, f)
		}
	}
}

// Package api's numbers of the interfaces are the faces.
func TestFacesAreTheApis(t *testing.T) {
	for f, name := range map[int]string{
		api.Display: "wl_display", api.Registry: "wl_registry", api.Callback: "wl_callback", api.Compositor: "wl_compositor", api.Shm: "wl_shm",
		api.Pool: "wl_shm_pool", api.Buffer: "wl_buffer", api.Surface: "wl_surface", api.Region: "wl_region", api.Subcompositor: "wl_subcompositor",
		api.Subsurface: "wl_subsurface", api.Seat: "wl_seat", api.Pointer: "wl_pointer", api.Keyboard: "wl_keyboard", api.WmBase: "xdg_wm_base",
		api.XdgSurface: "xdg_surface", api.Toplevel: "xdg_toplevel",
	} {
		if sig.Name(f) != name || sig.Face(name) != f {
			t.Errorf("%d, %q: %q, %d", f, name, sig.Name(f), sig.Face(name))
		}
	}
}

// count is how many requests, or events, an interface has.
func count(ask func(face, op int) (string, error), f int) int {
	n := 0
	for {
		if _, e := ask(f, n); e != nil {
			return n
		}
		n++
	}
}

func TestEachHasANameAndEachNameIsThere(t *testing.T) {
	for i, r := range chapter {
		if n := count(sig.Request, i+1); n != len(parts(r.called)) {
			t.Errorf("%s: %d requests, %d names", r.name, n, len(parts(r.called)))
		}
		if n := count(sig.Event, i+1); n != len(parts(r.told)) {
			t.Errorf("%s: %d events, %d names", r.name, n, len(parts(r.told)))
		}
	}
}

// What a name says must be so of what stands at its place: an object that is destroyed or released ends, one that is made or got is new.
func TestRequestsAreWhatTheyAreCalled(t *testing.T) {
	makers := map[string]string{
		"sync": "wl_callback", "get_registry": "wl_registry", "create_surface": "wl_surface", "create_region": "wl_region", "create_pool": "wl_shm_pool",
		"create_buffer": "wl_buffer", "frame": "wl_callback", "get_subsurface": "wl_subsurface", "get_pointer": "wl_pointer", "get_keyboard": "wl_keyboard",
		"get_xdg_surface": "xdg_surface", "get_toplevel": "xdg_toplevel",
	}
	for i, r := range chapter {
		for op, called := range parts(r.called) {
			s, e := sig.Request(i+1, op)
			if e != nil {
				t.Errorf("%s %s: %v", r.name, called, e)
			}
			if ends := called == "destroy" || called == "release"; sig.Ends(i+1, op) != ends || ends && s != "" {
				t.Errorf("%s %s: ends %v", r.name, called, !ends)
			}
			if made := sig.Name(sig.Makes(i+1, op)); made != makers[called] {
				t.Errorf("%s %s: makes %q", r.name, called, made)
			}
			if news := strings.Count(s, "n"); (news == 1) != (makers[called] != "" || called == "bind") || news > 1 {
				t.Errorf("%s %s: %q", r.name, called, s)
			}
		}
	}
}

func TestEventsMakeNothing(t *testing.T) {
	for f := range 20 {
		for op := range 8 {
			if s, _ := sig.Event(f, op); strings.Trim(s, "iufosa") != "" {
				t.Errorf("%d %d: %q", f, op, s)
			}
			if s, _ := sig.Request(f, op); strings.Trim(s, "iufonsa") != "" {
				t.Errorf("%d %d: %q", f, op, s)
			}
		}
	}
}

func TestExample(t *testing.T) {
	if s, e := sig.Request(8, 3); s != "n" || e != nil {
		t.Error(s, e)
	}
	if m := sig.Makes(8, 3); m != 3 {
		t.Error(m)
	}
}

func TestBindMakesAsItSays(t *testing.T) {
	if s, e := sig.Request(2, 0); s != "usun" || e != nil || sig.Makes(2, 0) != 0 || sig.Ends(2, 0) {
		t.Error(s, e, sig.Makes(2, 0))
	}
}

// What was asked ahead says nothing of what is answered.
func TestEachQuestionIsAnsweredAlike(t *testing.T) {
	for range 3 {
		for f := range 19 {
			for op := range 7 {
				a, e1 := sig.Request(f, op)
				sig.Event(op, f)
				sig.Request(-f, -op)
				b, e2 := sig.Request(f, op)
				if a != b || (e1 == nil) != (e2 == nil) {
					t.Errorf("%d %d: %q, %q", f, op, a, b)
				}
			}
		}
	}
}
