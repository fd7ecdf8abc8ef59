package server_test

import (
	"testing"

	"tableau/api"
	"tableau/desk"
)

// Pointers are the objects 10, keyboards the objects 11.
func pointerEnter(serial, surface, x, y int) string { return msg(10, 0, serial, surface, x*256, y*256) }
func pointerLeave(serial, surface int) string       { return msg(10, 1, serial, surface) }
func motion(time, x, y int) string                  { return msg(10, 2, time, x*256, y*256) }
func button(serial, time, n, on int) string         { return msg(10, 3, serial, time, n, on) }
func keysEnter(serial, surface int) string          { return msg(11, 0, serial, surface) }
func keysLeave(serial, surface int) string          { return msg(11, 1, serial, surface) }
func key(serial, time, n, on int) string            { return msg(11, 2, serial, time, n, on) }

// tick is a tick.
func (k *trial) tick(time int) {
	k.Helper()
	k.do(api.Op{Kind: api.DoTick, A: time}, nil)
}

// P27.2: DoTick paints, is told the time, and ends frames.
func TestTick(t *testing.T) {
	for _, time := range far() {
		k := ready(t, 1)
		k.show(1, 20)
		k.feed(1, frame(20, 30), commit(20))
		k.quiet()
		k.do(api.Op{Kind: api.DoTick, A: time, B: 5, C: 6, S: "x"}, nil)
		k.told(1, done(30, time), pointerEnter(2, 20, 0, 0), keysEnter(3, 20))
		if k.point(0, 0) != colour(1) {
			t.Error(time)
		}
	}
}

// P27.2, T5: who does not answer a ping is cut off at the fourth tick, behind what that tick has for it. The tick has painted it still; the next one does not.
func TestLate(t *testing.T) {
	k := ready(t, 3)
	k.show(1, 20)
	for c := 1; c <= 2; c++ {
		k.do(api.Op{Kind: api.DoPing, A: c}, nil)
		k.do(api.Op{Kind: api.DoPing, A: c}, nil) // one waits: there is no other one
	}
	k.told(1, msg(7, 0, 2))
	k.told(2, msg(7, 0, 3))
	k.feed(2, msg(7, 2, 3))
	for i := range 3 {
		k.tick(i)
		k.alive(1, true)
	}
	k.rest(1)
	k.feed(1, frame(20, 30), commit(20))
	k.tick(77)
	k.alive(1, false)
	k.alive(2, true)
	k.alive(3, true)
	if k.point(0, 0) != colour(1) || len(k.s.Desk().Views()) != 0 {
		t.Error("the tick's screen, and what is left")
	}
	k.told(1, done(30, 77))
	k.tick(78)
	if k.point(0, 0) != desk.Back {
		t.Error("seen still")
	}
	k.quiet()
}

// P27.2: all that are late at a tick are cut off; one that has answered in time is not.
func TestLateTogether(t *testing.T) {
	k := ready(t, 6)
	for c := 1; c <= 6; c++ {
		k.do(api.Op{Kind: api.DoPing, A: c}, nil)
		if c%2 == 0 {
			k.tick(0)
		}
	}
	k.feed(3, msg(7, 2, 3))
	k.tick(0)
	for c := 1; c <= 6; c++ {
		k.alive(c, c > 2)
		k.told(c, msg(7, 0, c))
	}
	k.tick(0)
	for c := 1; c <= 6; c++ {
		k.alive(c, c == 3 || c > 4)
	}
	k.quiet()
}

// P27.2: DoPing asks who has a wm_base, nobody else.
func TestPing(t *testing.T) {
	k := ready(t, 1)
	k.do(api.Op{Kind: api.DoConnect}, nil)
	for _, c := range far() {
		if c != 1 {
			k.do(api.Op{Kind: api.DoPing, A: c, B: 1}, nil)
		}
	}
	k.quiet()
	k.do(api.Op{Kind: api.DoPing, A: 1}, nil)
	k.told(1, msg(7, 0, 1))
}

// P27.2: DoMotion moves the pointer: who has it is told.
func TestMotion(t *testing.T) {
	k := ready(t, 2)
	k.show(1, 20) // 0, 0 to 1, 1
	k.show(2, 20) // 3, 2 to 4, 3
	k.do(api.Op{Kind: api.DoMotion, A: 1, B: 0, C: 9}, nil)
	k.told(1, pointerEnter(3, 20, 1, 0))
	k.do(api.Op{Kind: api.DoMotion, A: 1, B: 1}, nil)
	k.told(1, motion(0, 1, 1))
	k.do(api.Op{Kind: api.DoMotion, A: 3, B: 3}, nil)
	k.told(1, pointerLeave(4, 20))
	k.told(2, pointerEnter(5, 20, 0, 1))
	for _, x := range far() {
		if x < 0 || x > 1 {
			k.do(api.Op{Kind: api.DoMotion, A: x, B: 1}, nil)
		}
	}
	k.told(2, pointerLeave(6, 20))
	k.do(api.Op{Kind: api.DoMotion, A: 3, B: 2}, nil)
	k.told(2, pointerEnter(7, 20, 0, 0))
	k.quiet()
}

// P27.2: of a button and a key B says whether it is pressed: it is, if that is not 0. A button that is pressed raises its window, a key doesn't.
func TestPressed(t *testing.T) {
	for _, b := range far() {
		k := ready(t, 2)
		k.show(1, 20)
		k.show(2, 20)
		k.do(api.Op{Kind: api.DoTick, A: 9}, nil)
		k.told(1, pointerEnter(3, 20, 0, 0))
		k.told(2, keysEnter(4, 20))
		on := 1
		if b == 0 {
			on = 0
		}
		k.do(api.Op{Kind: api.DoKey, A: 30, B: b, C: 1}, nil)
		k.told(2, key(5, 9, 30, on))
		k.do(api.Op{Kind: api.DoButton, A: 272, B: b, C: 1}, nil)
		k.told(1, button(6, 9, 272, on))
		k.do(api.Op{Kind: api.DoTick, A: 10}, nil)
		if on == 1 {
			k.told(2, keysLeave(7, 20))
			k.told(1, keysEnter(8, 20))
		}
		k.quiet()
	}
}

// P27.2: any button and key is told, modulo 2^32; where nobody has the focus nobody is told.
func TestButtonsAndKeys(t *testing.T) {
	k := ready(t, 1)
	for _, n := range far() {
		k.do(api.Op{Kind: api.DoButton, A: n, B: 1}, nil)
		k.do(api.Op{Kind: api.DoKey, A: n, B: 1}, nil)
	}
	k.quiet()
	k.show(1, 20)
	k.tick(5)
	k.rest(1)
	serial := 3
	for _, n := range far() {
		k.do(api.Op{Kind: api.DoButton, A: n}, nil)
		k.do(api.Op{Kind: api.DoKey, A: n, B: 1}, nil)
		k.told(1, button(serial+1, 5, n, 0), key(serial+2, 5, n, 1))
		serial += 2
	}
}

// P27.2: DoResize asks the topmost window.
func TestResize(t *testing.T) {
	k := ready(t, 2)
	k.do(api.Op{Kind: api.DoResize, A: 5, B: 6}, nil)
	k.quiet()
	k.show(1, 20)
	k.show(2, 20)
	serial := 2
	for _, w := range far() {
		k.do(api.Op{Kind: api.DoResize, A: w, B: -w, C: 4}, nil)
		serial++
		k.told(2, configure(20, min(max(w, 0), 1<<24), min(max(-w, 0), 1<<24), serial))
		k.quiet()
	}
	k.feed(2, ack(20, serial), commit(20))
	k.alive(2, true)
}

// P27.2: who is full behind what others do is cut off then; the others are told, those ahead of it and behind it, and its windows go.
func TestFullByInput(t *testing.T) {
	k := begin(t, 600, 3)
	for c := 1; c <= 3; c++ {
		k.memory(c)
		k.feed(c, begun())
		k.rest(c)
		k.show(c, 20)
	}
	k.do(api.Op{Kind: api.DoMotion, A: 3, B: 2}, nil) // the client 2's window
	var want string
	for want = pointerEnter(4, 20, 0, 0); len(want)+20 <= 600; want += motion(0, 0, 0) {
		k.do(api.Op{Kind: api.DoMotion, A: 3, B: 2}, nil)
	}
	k.alive(2, true)
	if k.s.Waits(2) != len(want) || len(want) != 584 {
		t.Fatal(k.s.Waits(2), len(want))
	}
	k.do(api.Op{Kind: api.DoMotion, A: 3, B: 2}, nil)
	k.alive(2, false)
	k.told(2, want)
	if len(k.s.Desk().Views()) != 2 {
		t.Error(k.s.Desk().Views())
	}
	// Nobody has the pointer; at the tick nobody gets it, and the uppermost gets the keys.
	k.tick(1)
	k.told(3, keysEnter(5, 20))
	k.quiet()
}

// P27.2: several that are full at once are all cut off, behind one Do; what they have on the desk goes behind it alone.
func TestFullTogether(t *testing.T) {
	k := begin(t, 556, 3)
	for c := 1; c <= 3; c++ {
		k.memory(c)
		k.feed(c, begun())
		k.rest(c)
		k.show(c, 20)
	}
	// All but some bytes are used up, of 1 and 2; a frame's done fits, what is behind it does not.
	for c := 1; c <= 2; c++ {
		for k.s.Waits(c)+24 <= 556 {
			k.feed(c, sync(100))
		}
	}
	for c := 1; c <= 3; c++ {
		k.feed(c, frame(20, 30), commit(20))
	}
	if k.s.Waits(1) != 552 || k.s.Waits(2) != 552 {
		t.Fatal(k.s.Waits(1), k.s.Waits(2))
	}
	k.do(api.Op{Kind: api.DoDrain, A: 1, B: 8}, nil)
	k.tick(7)
	k.alive(1, false)
	k.alive(2, false)
	k.alive(3, true)
	if k.s.Waits(1) != 544+12 || k.s.Waits(2) != 552 {
		t.Error(k.s.Waits(1), k.s.Waits(2))
	}
	// The pointer was of 1, the keys of 3: the serial of what 1 was not told any more is gone all the same.
	k.told(3, done(30, 7), keysEnter(5, 20))
	k.rest(1)
	k.rest(2)
	k.tick(8)
	k.quiet()
	if k.point(0, 0) != desk.Back || k.point(3, 2) != desk.Back || k.point(6, 4) != colour(3) {
		t.Errorf("%x", k.s.Screen())
	}
}
