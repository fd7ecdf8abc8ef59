package server_test

import (
	"errors"
	"math"
	"strings"
	"testing"

	"tableau/api"
	"tableau/server"
)

// known are all errors there are: an answer must be just one of them.
var known = []error{
	api.ErrArg, api.ErrShort, api.ErrBytes, api.ErrBig, api.ErrObject, api.ErrMethod, api.ErrFormat, api.ErrStride,
	api.ErrFile, api.ErrRole, api.ErrPlace, api.ErrState, api.ErrSerial, api.ErrFull, api.ErrGone, api.ErrSheet,
}

// just tells whether e is want, and none of the others.
func just(e, want error) bool {
	for _, k := range known {
		if errors.Is(e, k) != (k == want) {
			return false
		}
	}
	return (e == nil) == (want == nil)
}

// far are numbers at the ends of what a number may be, and about 0.
func far() []int {
	l := []int{-1 << 32, 1 << 32, math.MinInt32, math.MaxInt32, 1 << 24, 1 << 14, 1000, 1001}
	for n := range 9 {
		l = append(l, n, -n, math.MinInt+n, math.MaxInt-n)
	}
	return l
}

// word is a number's four bytes.
func word(n int) string {
	v := uint32(n)
	return string([]byte{byte(v), byte(v >> 8), byte(v >> 16), byte(v >> 24)})
}

// number is the number of four bytes.
func number(s string) int {
	return int(s[0]) | int(s[1])<<8 | int(s[2])<<16 | int(s[3])<<24
}

// msg is a message as bytes: numbers and texts.
func msg(object, op int, args ...any) string {
	var b strings.Builder
	for _, a := range args {
		switch a := a.(type) {
		case int:
			b.WriteString(word(a))
		case string:
			b.WriteString(word(len(a)+1) + a + strings.Repeat("\x00", 4-len(a)%4))
		}
	}
	return word(object) + word((8+b.Len())<<16|op) + b.String()
}

// cut cuts bytes into whole messages, and what is left behind them.
func cut(s string) (l []string, left string) {
	for len(s) >= 8 && len(s) >= number(s[4:])>>16 {
		n := number(s[4:]) >> 16
		l, s = append(l, s[:n]), s[n:]
	}
	return l, s
}

// What clients ask for.
func sync(id int) string          { return msg(1, 0, id) }
func bind(name, id int) string    { return msg(2, 0, name, names[name], 1, id) }
func attach(s, buffer int) string { return msg(s, 1, buffer, 0, 0) }
func frame(s, id int) string      { return msg(s, 3, id) }
func commit(s int) string         { return msg(s, 5) }
func ack(s, serial int) string    { return msg(s+1, 2, serial) }

// What they are told.
func done(id, with int) string        { return msg(id, 0, with) + msg(1, 1, id) }
func ended(id int) string             { return msg(1, 1, id) }
func configure(s, w, h, n int) string { return msg(s+2, 0, w, h) + msg(s+1, 0, n) }
func wrong(object, code int, text string) string {
	return msg(1, 0, object, code, text)
}

// names are what may be bound.
var names = []string{"", "wl_compositor", "wl_shm", "wl_subcompositor", "wl_seat", "xdg_wm_base"}

// begun is what a client asks for first: the registry 2, the compositor 3, shm 4, subcompositor 5, seat 6, wm_base 7; the pool 8 over the memory 1 of 64 bytes, the buffer 9 of 2 by 2 in it, the pointer 10, the keyboard 11.
func begun() string {
	s := msg(1, 1, 2)
	for name := 1; name < len(names); name++ {
		s += bind(name, 2+name)
	}
	return s + msg(4, 0, 8, 1, 64) + msg(8, 0, 9, 0, 2, 2, 8, 1) + msg(6, 0, 10) + msg(6, 1, 11)
}

// window is the surface s, the xdg_surface and the toplevel of the next two numbers, asked for.
func window(s int) string {
	return msg(3, 0, s) + msg(7, 1, s+1, s) + msg(s+1, 1, s+2) + commit(s)
}

// trial is a server that is tried out.
type trial struct {
	*testing.T
	s *server.Server
}

// begin is a server with a screen of 16 by 12, and so many clients.
func begin(t *testing.T, room, clients int) *trial {
	t.Helper()
	s, e := server.New(16, 12, room)
	if e != nil || s == nil {
		t.Fatal(s, e)
	}
	k := &trial{t, s}
	for range clients {
		k.do(api.Op{Kind: api.DoConnect}, nil)
	}
	return k
}

// ready is a server whose clients have all that begun asks for, and have read what they were told.
func ready(t *testing.T, clients int) *trial {
	t.Helper()
	k := begin(t, 4096, clients)
	for c := 1; c <= clients; c++ {
		k.memory(c)
		k.feed(c, begun())
		k.rest(c)
		k.alive(c, true)
	}
	return k
}

// do does an operation, and wants this error.
func (k *trial) do(o api.Op, want error) {
	k.Helper()
	if e := k.s.Do(o); !just(e, want) {
		k.Fatalf("%+v: %v, not %v", o, e, want)
	}
}

// feed feeds bytes of a client's.
func (k *trial) feed(c int, pieces ...string) {
	k.Helper()
	k.do(api.Op{Kind: api.DoFeed, A: c, S: strings.Join(pieces, "")}, nil)
}

// memory is the memory 1 of a client's, of 64 bytes c.
func (k *trial) memory(c int) {
	k.Helper()
	k.do(api.Op{Kind: api.DoMemory, A: c, B: 1, C: 64}, nil)
	k.do(api.Op{Kind: api.DoWrite, A: c, B: 1, S: strings.Repeat(string(rune(c)), 64)}, nil)
}

// colour is what is seen of a client's buffer.
func colour(c int) uint32 { return 0xff000000 | 0x010101*uint32(c) }

// rest is all that waits for a client, which reads it.
func (k *trial) rest(c int) string {
	k.Helper()
	was := k.s.Read(c)
	k.do(api.Op{Kind: api.DoDrain, A: c, B: api.MaxOut}, nil)
	if k.s.Waits(c) != 0 || !strings.HasPrefix(k.s.Read(c), was) {
		k.Fatal("not all is read, or another text")
	}
	return k.s.Read(c)[len(was):]
}

// told wants just these messages to wait for a client, which reads them.
func (k *trial) told(c int, want ...string) {
	k.Helper()
	if got := k.rest(c); got != strings.Join(want, "") {
		a, left := cut(got)
		b, _ := cut(strings.Join(want, ""))
		k.Fatalf("client %d is told\n%q, %q\nnot\n%q", c, a, left, b)
	}
}

// quiet wants nothing to wait for any client.
func (k *trial) quiet() {
	k.Helper()
	for c := range api.MaxClients + 2 {
		if n := k.s.Waits(c); n != 0 {
			k.Fatal(n, "bytes wait for", c)
		}
	}
}

// alive wants a client to be there, or not.
func (k *trial) alive(c int, want bool) {
	k.Helper()
	if k.s.Alive(c) != want {
		k.Fatalf("client %d is there: %v", c, !want)
	}
	if there := k.s.Desk().Face(c, 1) == api.Display; there != want {
		k.Fatalf("client %d is on the desk: %v", c, there)
	}
}

// show makes a client's window that is shown: the surface s, with the buffer 9.
func (k *trial) show(c, s int) {
	k.Helper()
	k.feed(c, window(s))
	n := k.s.Desk().Serial()
	k.feed(c, ack(s, n), attach(s, 9), commit(s))
	k.told(c, configure(s, 0, 0, n))
	k.alive(c, true)
}

// point is the colour of a point of the screen.
func (k *trial) point(x, y int) uint32 { return k.s.Screen()[16*y+x] }
