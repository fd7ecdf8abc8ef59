package server_test

import (
	"math/rand"
	"strings"

	"tableau/api"
	"tableau/desk"
)

// life is what a client asks for, by chance: mostly what is right, in view of what it has on a desk.
type life struct {
	r       *rand.Rand
	d       *desk.Desk
	c       int
	windows bool // whether it may have some
	text    string
	whole   bool     // whether the text is to be sent at once
	asked   [][2]int // windows that are asked for, and the serial they are told
}

// born is a client that asks for what begun asks for first.
func born(r *rand.Rand, d *desk.Desk, c int, windows bool) *life {
	return &life{r: r, d: d, c: c, windows: windows, text: begun()}
}

// some is one of a client's objects of that interface; 0 of none, and now and then.
func (l *life) some(face int) int {
	var ids []int
	for id := 2; id <= 60; id++ {
		if l.d.Face(l.c, id) == face {
			ids = append(ids, id)
		}
	}
	if len(ids) == 0 || l.r.Intn(30) == 0 {
		return 0
	}
	return ids[l.r.Intn(len(ids))]
}

// free is the first number, from n on, by that many, of which there is no object.
func (l *life) free(n, by int) int {
	for l.d.Face(l.c, n) != 0 {
		n += by
	}
	return n
}

// next is what it asks for next.
func (l *life) next() string {
	s, id := l.some(api.Surface), l.free(100, 1)
	if l.d.Face(l.c, 11) == 0 {
		return sync(id)
	}
	if s == 0 {
		return msg(3, 0, l.free(20, 4))
	}
	switch l.r.Intn(14) {
	case 0, 1:
		return sync(id)
	case 2:
		return frame(s, id) + commit(s)
	case 3:
		return attach(s, []int{0, 9, 9, 9}[l.r.Intn(4)]) + msg(s, 2, 0, 0, l.r.Intn(5)-1, 9) + commit(s)
	case 4:
		return msg(3, 1, id) + msg(id, 1, 0, 0, l.r.Intn(3), l.r.Intn(3)) + msg(s, 4, id) + msg(id, 0)
	case 5:
		return msg(8, 0, id, 4*l.r.Intn(4), 1, l.r.Intn(5)+1, 4, l.r.Intn(2)) + attach(s, id) + commit(s) + msg(id, 0)
	case 6:
		if n := l.some(api.Toplevel); n != 0 {
			return msg(n, 1, "a title"[:l.r.Intn(7)])
		}
	case 7, 8:
		return l.sub()
	case 9:
		if n := l.some(api.Toplevel); n != 0 && l.r.Intn(3) == 0 {
			return msg(n, 0) + msg(n-1, 0) + msg(n-2, 0)
		}
	default:
		if l.windows {
			return l.window()
		}
	}
	return commit(s)
}

// sub is a surface in another one.
func (l *life) sub() string {
	parent, s := l.some(api.Surface), l.free(20, 4)
	return msg(3, 0, s) + msg(5, 1, s+1, s, parent) + msg(s+1, 1, l.r.Intn(5)-2, l.r.Intn(5)-2) + attach(s, 9) + commit(s) + commit(parent)
}

// window is a window more, or what makes one that is asked for a shown one. It is asked for at once: its serial is known then.
func (l *life) window() string {
	if n := len(l.asked); n > 0 && l.r.Intn(3) > 0 {
		s, serial := l.asked[n-1][0], l.asked[n-1][1]
		l.asked = l.asked[:n-1]
		return ack(s, serial) + attach(s, 9) + commit(s)
	}
	s := l.free(20, 4)
	l.asked, l.whole = append(l.asked, [2]int{s, l.d.Serial() + 1}), true
	return window(s)
}

// wild is what is wrong, in most cases.
func (l *life) wild() string {
	b := make([]byte, l.r.Intn(40))
	l.r.Read(b)
	switch l.r.Intn(6) {
	case 0:
		return string(b)
	case 1:
		return msg(l.r.Intn(30), l.r.Intn(6))
	case 2:
		return msg(l.r.Intn(30), l.r.Intn(6), l.r.Intn(40), l.r.Intn(40)-20)
	case 3:
		return msg(l.r.Intn(12), l.r.Intn(4), string(b))
	case 4:
		return word(1) + word(l.r.Intn(20)<<16) + strings.Repeat("\x00", l.r.Intn(9))
	}
	return word(1) + word(l.r.Intn(1<<16)<<16) + string(b)
}

// bytes are the next of its bytes: some of what it has still to send. One time of so many they are wild.
func (l *life) bytes(wildness int) string {
	if l.text == "" && l.r.Intn(wildness) == 0 {
		l.text = l.wild()
	} else if l.text == "" {
		l.text = l.next()
	}
	n := len(l.text)
	if !l.whole && l.r.Intn(2) == 0 {
		n = l.r.Intn(n + 1)
	}
	text := l.text[:n]
	l.text, l.whole = l.text[n:], false
	return text
}

// op is something that happens beside what clients send.
func op(r *rand.Rand, d *desk.Desk) api.Op {
	x, y := r.Intn(18)-1, r.Intn(14)-1
	if l := d.Views(); len(l) > 0 && r.Intn(4) > 0 {
		v := l[r.Intn(len(l))]
		x, y = v.X+r.Intn(2), v.Y+r.Intn(2)
	}
	switch r.Intn(9) {
	case 0:
		return api.Op{Kind: api.DoButton, A: r.Intn(300), B: r.Intn(3) - 1}
	case 1:
		return api.Op{Kind: api.DoKey, A: r.Intn(300), B: r.Intn(3) - 1}
	case 2:
		return api.Op{Kind: api.DoResize, A: r.Intn(40) - 5, B: r.Intn(40) - 5}
	case 3, 4:
		return api.Op{Kind: api.DoTick, A: r.Intn(1<<33) - 1<<32}
	}
	return api.Op{Kind: api.DoMotion, A: x, B: y}
}
