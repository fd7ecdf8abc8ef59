package server_test

import (
	"math"
	"slices"
	"strings"
	"testing"

	"tableau/api"
	"tableau/desk"
	"tableau/server"
)

// P27.1: New answers the desk's error, and nil.
func TestNewIsRefused(t *testing.T) {
	sides := append(far(), 16, api.MaxSide, api.MaxSide+1)
	for _, w := range sides {
		for _, h := range sides {
			_, want := desk.New(w, h)
			s, e := server.New(w, h, 4096)
			if (want == nil) != (e == nil) || want != nil && !just(e, api.ErrArg) || (s == nil) != (want != nil) {
				t.Fatal(w, h, s, e)
			}
			if e == nil && len(s.Screen()) != w*h {
				t.Fatal(w, h, len(s.Screen()))
			}
		}
	}
}

// P27.1: a new server has no client, and a screen of the desk's colour.
func TestNewHasNobody(t *testing.T) {
	for _, room := range append(far(), 100, math.MaxInt) {
		s, e := server.New(3, 2, room)
		if e != nil {
			t.Fatal(room, e)
		}
		if !slices.Equal(s.Screen(), slices.Repeat([]uint32{desk.Back}, 6)) || s.Desk() == nil || s.Desk().Serial() != 0 {
			t.Fatal(room, s.Screen())
		}
		for _, c := range far() {
			if s.Alive(c) || s.Waits(c) != 0 || s.Read(c) != "" {
				t.Fatal(room, "client", c)
			}
		}
	}
}

// P27.1: Alive, Waits and Read are asked of any number; who was never there has nothing.
func TestClientsThatNeverWere(t *testing.T) {
	k := begin(t, 4096, 3)
	for c := 1; c <= 3; c++ {
		k.feed(c, sync(2), sync(3))
		k.do(api.Op{Kind: api.DoDrain, A: c, B: 10}, nil)
	}
	for _, c := range far() {
		there := c >= 1 && c <= 3
		if k.s.Alive(c) != there || (k.s.Waits(c) == 38) != there || (k.s.Read(c) == done(2, 0)[:10]) != there {
			t.Error("client", c, k.s.Alive(c), k.s.Waits(c), k.s.Read(c))
		}
		if !there && (k.s.Waits(c) != 0 || k.s.Read(c) != "") {
			t.Error("client", c, k.s.Waits(c), k.s.Read(c))
		}
	}
}

// P27.1: asking turns nothing.
func TestAskingTurnsNothing(t *testing.T) {
	k := begin(t, 4096, 1)
	k.feed(1, sync(2))
	k.do(api.Op{Kind: api.DoDrain, A: 1, B: 12}, nil)
	for range 3 {
		if !k.s.Alive(1) || k.s.Waits(1) != 12 || k.s.Read(1) != msg(2, 0, 0) || len(k.s.Screen()) != 192 {
			t.Fatal(k.s.Alive(1), k.s.Waits(1), k.s.Read(1))
		}
	}
	k.told(1, ended(2))
}

// P27.1: the queue of each client has that room; less than none is none, more than MaxOut is MaxOut.
func TestRoomIsEachClients(t *testing.T) {
	for _, room := range []int{math.MinInt, -1, 0, 1, 23, 24, 25, 47, 48, 100, api.MaxOut - 1, api.MaxOut, api.MaxOut + 1, 2 * api.MaxOut, math.MaxInt} {
		k := begin(t, room, 3)
		most := min(max(room, 0), 1<<14)
		for c := 1; c <= 3; c++ {
			var want strings.Builder
			for i := 0; want.Len()+24 <= most; i++ {
				k.feed(c, sync(2+i%3))
				want.WriteString(done(2+i%3, 0))
			}
			k.alive(c, true)
			if k.s.Waits(c) != want.Len() {
				t.Fatal(room, c, k.s.Waits(c), want.Len())
			}
			// One more than there is room for: what fits of it is told.
			k.feed(c, sync(9))
			k.alive(c, false)
			if want.Len()+12 <= most {
				want.WriteString(msg(9, 0, 0))
			}
			k.told(c, want.String())
		}
	}
}

// P27.1: Desk is always the one desk, on which all is.
func TestDesk(t *testing.T) {
	k := ready(t, 2)
	d := k.s.Desk()
	k.show(2, 20)
	if k.s.Desk() != d || len(d.Views()) != 1 || d.Views()[0].Surface != 2020 || d.Face(2, 22) != api.Toplevel || d.Face(1, 22) != 0 {
		t.Error(d.Views())
	}
}

// P27.1, R3: Screen is the desk's as the last tick left it, new memory each time.
func TestScreen(t *testing.T) {
	k := ready(t, 1)
	k.show(1, 20)
	if k.point(0, 0) != desk.Back {
		t.Error("shown ahead of the tick")
	}
	k.do(api.Op{Kind: api.DoTick}, nil)
	l := k.s.Screen()
	if len(l) != 192 || l[0] != colour(1) || l[1] != colour(1) || l[2] != desk.Back || l[17] != colour(1) || l[32] != desk.Back {
		t.Errorf("%x", l[:34])
	}
	if !slices.Equal(l, k.s.Desk().Screen()) {
		t.Error("not the desk's")
	}
	clear(l[:cap(l)])
	if k.point(0, 0) != colour(1) || k.point(5, 5) != desk.Back {
		t.Error("the screen was turned from outside")
	}
}

// P27.2: kinds that are none are refused, and turn nothing.
func TestKindsThatAreNone(t *testing.T) {
	k := ready(t, 1)
	k.feed(1, sync(100))
	for _, kind := range append(far(), 13, 14, 256+api.DoFeed) {
		if kind >= api.DoConnect && kind <= api.DoDrain {
			continue
		}
		for a := range 3 {
			k.do(api.Op{Kind: kind, A: a, B: 1, C: 4, S: sync(101)}, api.ErrArg)
		}
	}
	k.told(1, done(100, 0))
	k.quiet()
}

// P27.2: DoConnect is desk's Connect: MaxClients of them, and no more, also where some are gone.
func TestConnect(t *testing.T) {
	k := begin(t, 4096, 0)
	for c := 1; c <= 6; c++ {
		k.alive(c, false)
		// What an operation doesn't need says nothing.
		k.do(api.Op{Kind: api.DoConnect, A: -c, B: 99, C: 7, S: "x"}, nil)
		k.alive(c, true)
		if c%2 == 0 {
			k.do(api.Op{Kind: api.DoHang, A: c}, nil)
			k.alive(c, false)
		}
	}
	for range 3 {
		k.do(api.Op{Kind: api.DoConnect}, api.ErrFull)
	}
	k.do(api.Op{Kind: api.DoHang, A: 1}, nil)
	k.do(api.Op{Kind: api.DoConnect}, api.ErrFull)
	for c := 0; c < 9; c++ {
		k.alive(c, c == 3 || c == 5)
	}
	k.feed(5, sync(2))
	k.told(5, done(2, 0))
}

// P27.2: what is asked of a client that is gone, or never was, is refused ahead of all else, and turns nothing.
func TestGone(t *testing.T) {
	k := ready(t, 3)
	k.feed(1, sync(100), msg(99, 0))
	k.feed(2, sync(100))
	k.do(api.Op{Kind: api.DoHang, A: 2}, nil)
	k.feed(3, sync(100))
	left := done(100, 0) + wrong(1, 0, "object")
	for _, c := range append(far(), 1, 2) {
		if c == 3 {
			continue
		}
		for _, o := range []api.Op{
			{Kind: api.DoFeed}, {Kind: api.DoFeed, S: sync(2)}, {Kind: api.DoFeed, S: "\x00\x00\x00\x00\x00\x00\x00\x00"}, {Kind: api.DoHang},
			{Kind: api.DoMemory, B: 1, C: 8}, {Kind: api.DoMemory}, {Kind: api.DoMemory, B: 300, C: -1},
			{Kind: api.DoWrite, B: 1, S: "a"}, {Kind: api.DoWrite, B: 9}, {Kind: api.DoWrite, B: 1, C: -1},
		} {
			o.A = c
			k.do(o, api.ErrGone)
		}
		if k.s.Waits(1) != len(left) || k.s.Waits(2) != 0 || k.s.Waits(3) != 24 {
			t.Fatal(c, k.s.Waits(1), k.s.Waits(2), k.s.Waits(3))
		}
		k.alive(3, true)
	}
	k.told(1, left)
	k.told(3, done(100, 0))
}

// P27.2: DoMemory and DoWrite answer the desk's errors, and do what they say.
func TestMemoryAndWrite(t *testing.T) {
	k := begin(t, 4096, 2)
	for _, x := range []struct {
		o    api.Op
		want error
	}{
		{api.Op{Kind: api.DoMemory, A: 1, B: 0, C: 1}, api.ErrArg},
		{api.Op{Kind: api.DoMemory, A: 1, B: 256, C: 1}, api.ErrArg},
		{api.Op{Kind: api.DoMemory, A: 1, B: 1, C: -1}, api.ErrArg},
		{api.Op{Kind: api.DoMemory, A: 1, B: 1, C: 1<<16 + 1}, api.ErrArg},
		{api.Op{Kind: api.DoMemory, A: 1, B: math.MinInt, C: math.MaxInt}, api.ErrArg},
		{api.Op{Kind: api.DoWrite, A: 1, B: 1}, api.ErrFile},
		{api.Op{Kind: api.DoMemory, A: 1, B: 1, C: 4}, nil},
		{api.Op{Kind: api.DoMemory, A: 1, B: 255, C: 1 << 16}, nil},
		{api.Op{Kind: api.DoWrite, A: 1, B: 1, C: 1, S: "abcd"}, api.ErrStride},
		{api.Op{Kind: api.DoWrite, A: 1, B: 1, C: -1, S: "a"}, api.ErrStride},
		{api.Op{Kind: api.DoWrite, A: 1, B: 1, C: math.MaxInt, S: "a"}, api.ErrStride},
		{api.Op{Kind: api.DoWrite, A: 1, B: 1, C: 0, S: "abcd"}, nil},
		{api.Op{Kind: api.DoWrite, A: 1, B: 1, C: 4, S: ""}, nil},
		{api.Op{Kind: api.DoWrite, A: 2, B: 1}, api.ErrFile},
		{api.Op{Kind: api.DoWrite, A: 1, B: 255, C: 1<<16 - 1, S: "\xff"}, nil},
	} {
		k.do(x.o, x.want)
	}
	k.alive(1, true)
	k.quiet()
}

// P27.2: what is written is seen at the next tick, at its place, in its client's memory alone.
func TestWriteIsSeen(t *testing.T) {
	k := ready(t, 2)
	k.show(1, 20)
	k.show(2, 20)
	k.do(api.Op{Kind: api.DoWrite, A: 1, B: 1, C: 4, S: "\x03\x02\x01\x00"}, nil)
	k.do(api.Op{Kind: api.DoTick}, nil)
	if k.point(0, 0) != colour(1) || k.point(1, 0) != 0xff010203 || k.point(3, 2) != colour(2) || k.point(4, 2) != colour(2) {
		t.Errorf("%x", k.s.Screen())
	}
}

// P27.2: a feed's bytes are messages, however they are cut.
func TestFeedInPieces(t *testing.T) {
	text := begun() + sync(100) + window(20) + sync(101)
	whole := begin(t, 4096, 1)
	whole.memory(1)
	whole.feed(1, text)
	want := whole.rest(1)
	for piece := 1; piece < 40; piece++ {
		k := begin(t, 4096, 2)
		k.memory(1)
		for at := 0; at < len(text); at += piece {
			k.feed(1, text[at:min(at+piece, len(text))])
			k.feed(1)
			// What is half is its client's own.
			if at < 7 {
				k.feed(2, sync(2)[at:at+1])
			}
		}
		k.alive(1, true)
		k.alive(2, true)
		k.told(1, want)
	}
	if !strings.HasSuffix(want, done(100, 0)+configure(20, 0, 0, 1)+done(101, 1)) {
		t.Errorf("%q", want)
	}
}

// P27.2: a message is handled when its last byte is there.
func TestFeedHalf(t *testing.T) {
	k := begin(t, 4096, 1)
	text := sync(2)
	k.feed(1, text[:11])
	k.quiet()
	k.feed(1, text[11:], text[:7])
	k.told(1, done(2, 0))
	k.feed(1, text[7:])
	k.told(1, done(2, 0))
	k.quiet()
}

// faults are bytes that are wrong behind begun, and the error that is told for them.
func faults() []struct{ name, text, want string } {
	surface := msg(3, 0, 20)
	return []struct{ name, text, want string }{
		{"no object", msg(99, 0), wrong(1, 0, "object")},
		{"the object 0", msg(0, 0), wrong(1, 0, "object")},
		{"an object above all", msg(-1, 0), wrong(1, 0, "object")},
		{"a number that is there", sync(9), wrong(1, 0, "object")},
		{"a number that may not be", sync(256), wrong(1, 0, "object")},
		{"a number that is there, for another one", msg(8, 0, 9, 0, 1, 1, 4, 0), wrong(1, 0, "object")},
		{"a name that is none", msg(2, 0, 9, "wl_shm", 1, 50), wrong(2, 0, "argument")},
		{"a place beside", surface + msg(20, 1, 9, 1, 0), wrong(20, 0, "argument")},
		{"an object of another kind", surface + msg(20, 1, 8, 0, 0), wrong(20, 0, "object")},
		{"no request", msg(3, 2), wrong(3, 1, "method")},
		{"a request of one that has none", msg(10, 1), wrong(10, 1, "method")},
		{"bytes behind", msg(10, 0, 1), wrong(10, 1, "bytes")},
		{"too few", msg(1, 0), wrong(1, 1, "short")},
		{"a text that is too long", msg(2, 0, 1, strings.Repeat("a", 201), 1, 50), wrong(2, 1, "bytes")},
		{"a format", msg(8, 0, 50, 0, 1, 1, 4, 2), wrong(8, 3, "format")},
		{"a stride", msg(8, 0, 50, 0, 2, 1, 4, 0), wrong(8, 4, "stride")},
		{"a memory that is not there", msg(4, 0, 50, 2, 4), wrong(4, 5, "file")},
		{"a surface that is a window", window(20) + msg(20, 0), wrong(20, 6, "role")},
		{"a sibling that is none", surface + msg(3, 0, 21) + msg(5, 1, 22, 20, 21) + msg(22, 2, 20), wrong(22, 7, "place")},
		{"a buffer ahead of the ack", window(20) + attach(20, 9) + commit(20), wrong(20, 8, "state")},
		{"a serial that was not sent", window(20) + ack(20, 9), wrong(21, 9, "serial")},
		{"eight bytes 0", strings.Repeat("\x00", 8), wrong(1, 1, "bytes")},
		{"seven bytes in all", word(1) + word(7<<16), wrong(1, 1, "bytes")},
		{"no multiple of four", word(1) + word(10<<16) + "ab", wrong(1, 1, "bytes")},
		{"more than a message has", word(1) + word(4100<<16), wrong(1, 2, "big")},
		{"as much as a message has", word(1) + word(4096<<16) + strings.Repeat("\x00", 4088), wrong(1, 1, "bytes")},
		{"bytes 255", strings.Repeat("\xff", 8), wrong(1, 1, "bytes")},
	}
}

// P27.2, T4: at an error the display's error is told, behind all else, and the client is cut off; what comes behind is not handled.
func TestFeedThatIsWrong(t *testing.T) {
	for _, f := range faults() {
		k := ready(t, 2)
		k.show(2, 20)
		k.feed(1, sync(100), f.text, sync(101), f.text)
		got := k.rest(1)
		if !strings.HasPrefix(got, done(100, 1)) || !strings.HasSuffix(got, f.want) || strings.Contains(got, msg(1, 1, 101)) {
			l, left := cut(got)
			t.Errorf("%s: %q, %q", f.name, l, left)
		}
		if l, left := cut(got); left != "" || slices.ContainsFunc(l[:len(l)-1], isError) {
			t.Errorf("%s: more than one error: %q, %q", f.name, l, left)
		}
		k.alive(1, false)
		k.alive(2, true)
		k.do(api.Op{Kind: api.DoFeed, A: 1, S: sync(2)}, api.ErrGone)
		k.quiet()
		k.feed(2, sync(100))
		k.told(2, done(100, k.s.Desk().Serial()))
	}
}

// isError tells whether a message is the display's error.
func isError(s string) bool { return number(s) == 1 && number(s[4:])&0xffff == 0 }

// P27.2: the error is the same however the bytes come, and also where it is all that comes.
func TestFeedThatIsWrongInPieces(t *testing.T) {
	for _, f := range faults() {
		for _, piece := range []int{1, 3, 8, 4096} {
			k := ready(t, 1)
			for at := 0; at < len(f.text) && k.s.Alive(1); at += piece {
				k.feed(1, f.text[at:min(at+piece, len(f.text))])
			}
			if got := k.rest(1); !strings.HasSuffix(got, f.want) {
				t.Errorf("%s, by %d: %q", f.name, piece, got)
			}
			k.alive(1, false)
		}
	}
}

// P27.2: the reader's error is told behind the messages ahead of it; where one of these is wrong, that one is told alone.
func TestReadersErrorIsBehindTheMessages(t *testing.T) {
	zero := strings.Repeat("\x00", 8)
	k := begin(t, 4096, 2)
	k.feed(1, sync(2), sync(3), zero, sync(4))
	k.told(1, done(2, 0), done(3, 0), wrong(1, 1, "bytes"))
	k.feed(2, sync(2), msg(77, 1), zero)
	k.told(2, done(2, 0), wrong(1, 0, "object"))
}

// P27.2: what waits for one that is cut off can be read, piece by piece, and no more comes.
func TestCutOffIsReadStill(t *testing.T) {
	k := begin(t, 4096, 1)
	k.feed(1, sync(2), msg(9, 9))
	want := done(2, 0) + wrong(1, 0, "object")
	for i := range want {
		if k.s.Waits(1) != len(want)-i || k.s.Read(1) != want[:i] {
			t.Fatal(i, k.s.Waits(1), k.s.Read(1))
		}
		k.do(api.Op{Kind: api.DoDrain, A: 1, B: 1}, nil)
		k.do(api.Op{Kind: api.DoHang, A: 1}, api.ErrGone)
	}
	k.do(api.Op{Kind: api.DoDrain, A: 1, B: 1}, nil)
	if k.s.Waits(1) != 0 || k.s.Read(1) != want {
		t.Error(k.s.Waits(1), k.s.Read(1))
	}
}

// P27.2: an error for which there is no room is not told; the client is cut off all the same.
func TestErrorWithoutRoom(t *testing.T) {
	size := len(wrong(1, 0, "object"))
	for room := size - 1; room <= size; room++ {
		k := begin(t, room, 1)
		k.feed(1, msg(99, 0))
		k.alive(1, false)
		k.told(1, wrong(1, 0, "object")[:size*(room-size+1)])
	}
	k := begin(t, 24+size-1, 1)
	k.feed(1, sync(2), msg(99, 0))
	k.alive(1, false)
	k.told(1, done(2, 0))
}

// P27.2: who is full in the midst of a feed is cut off there: nothing of what is behind is handled, and no error is told, though there were one and bytes had been read.
func TestFullInTheMidstOfAFeed(t *testing.T) {
	for _, behind := range []string{"", sync(4), msg(99, 0), strings.Repeat("\x00", 8), msg(1, 1, 2)} {
		k := begin(t, 60, 1)
		k.feed(1, sync(2), sync(3), sync(4), behind)
		k.alive(1, false)
		// Of the third what there is room for is told.
		k.told(1, done(2, 0), done(3, 0), msg(4, 0, 0))
	}
}

// P27.2: what was sent is put in the queue behind each message: of who is full the next one is not handled, and no serial is used for it.
func TestFullIsFoundBehindEachMessage(t *testing.T) {
	k := ready(t, 2)
	for k.s.Waits(1)+24 <= 4096 {
		k.feed(1, sync(100))
	}
	k.feed(1, sync(100), window(20))
	k.alive(1, false)
	if n := k.s.Desk().Serial(); n != 0 {
		t.Error("serial", n)
	}
	k.show(2, 20)
	k.do(api.Op{Kind: api.DoPing, A: 2}, nil)
	k.told(2, msg(7, 0, 2))
}

// P27.2: what there is room for is told event by event, up to the first for which there is none: a shorter one behind it is not told.
func TestFullUpToTheFirst(t *testing.T) {
	k := begin(t, 40, 1)
	k.feed(1, msg(1, 1, 2))
	k.alive(1, false)
	k.told(1, msg(2, 0, 1, "wl_compositor", 4))
}

// P27.2: what is read makes room again.
func TestDrainMakesRoom(t *testing.T) {
	k := begin(t, 24, 1)
	for i := range 50 {
		k.feed(1, sync(2))
		if k.s.Waits(1) != 24 || len(k.s.Read(1)) != 24*i {
			t.Fatal(i, k.s.Waits(1))
		}
		k.do(api.Op{Kind: api.DoDrain, A: 1, B: 24}, nil)
	}
	k.feed(1, sync(2))
	k.do(api.Op{Kind: api.DoDrain, A: 1, B: 23}, nil)
	k.feed(1, sync(2)) // 1 and 12 fit, 12 more don't
	k.alive(1, false)
	k.told(1, done(2, 0)[23:], msg(2, 0, 0))
}

// P27.2: DoDrain reads as many bytes as there are, none if it is told less than one, of any client there ever was.
func TestDrain(t *testing.T) {
	for _, n := range append(far(), 23, 24, 25) {
		k := begin(t, 4096, 2)
		k.feed(1, sync(2))
		k.do(api.Op{Kind: api.DoDrain, A: 1, B: n}, nil)
		taken := min(max(n, 0), 24)
		if k.s.Read(1) != done(2, 0)[:taken] || k.s.Waits(1) != 24-taken || k.s.Read(2) != "" {
			t.Error(n, k.s.Read(1), k.s.Waits(1))
		}
		k.do(api.Op{Kind: api.DoDrain, A: 2, B: n}, nil)
		if c := n; c < 1 || c > 2 {
			k.do(api.Op{Kind: api.DoDrain, A: c, B: 1}, api.ErrGone)
		}
	}
}

// P27.2: DoHang cuts off, and what waits is gone; what was read stays, and what it had on the desk goes.
func TestHang(t *testing.T) {
	k := ready(t, 2)
	k.show(1, 20)
	k.show(2, 20)
	k.feed(1, sync(100), "half")
	k.do(api.Op{Kind: api.DoDrain, A: 1, B: 5}, nil)
	was := k.s.Read(1)
	k.do(api.Op{Kind: api.DoHang, A: 1}, nil)
	k.alive(1, false)
	if k.s.Waits(1) != 0 || k.s.Read(1) != was || len(k.s.Desk().Views()) != 1 {
		t.Error(k.s.Waits(1), k.s.Read(1), k.s.Desk().Views())
	}
	k.told(1)
	k.do(api.Op{Kind: api.DoHang, A: 1}, api.ErrGone)
	k.alive(2, true)
	k.quiet()
}
