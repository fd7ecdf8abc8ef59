package server_test

import (
	"math/rand"
	"slices"
	"strings"
	"testing"

	"tableau/api"
)

// seen are the views of a server. Their buffers are left out: these are numbered for all clients together.
func seen(k *trial) []api.View {
	l := k.s.Desk().Views()
	for i := range l {
		l[i].Buffer = 0
	}
	return l
}

// same wants what a client was told, and what is seen, to be the same in both.
func same(t *testing.T, a, b *trial, c int) {
	t.Helper()
	if a.s.Alive(c) != b.s.Alive(c) || a.s.Waits(c) != b.s.Waits(c) || a.s.Read(c) != b.s.Read(c) {
		t.Fatalf("client %d: %v, %d, %q\nand %v, %d, %q", c, a.s.Alive(c), a.s.Waits(c), a.s.Read(c), b.s.Alive(c), b.s.Waits(c), b.s.Read(c))
	}
	if !slices.Equal(a.s.Screen(), b.s.Screen()) || !slices.Equal(seen(a), seen(b)) {
		t.Fatal("another screen, or other views")
	}
}

// P27.3: bytes of a client that has no window turn nothing of what another one is told, and nothing that is seen.
func TestBytesAreTheirClientsAlone(t *testing.T) {
	wrongs := 0
	for seed := range 200 {
		r := rand.New(rand.NewSource(int64(seed)))
		a, b := ready(t, 2), ready(t, 2)
		wild, good := born(r, a.s.Desk(), 1, false), born(r, a.s.Desk(), 2, true)
		wild.text, good.text = "", ""
		for range 200 {
			o := api.Op{Kind: api.DoFeed, A: 2, S: ""}
			switch n := r.Intn(10); {
			case n < 4:
				if a.s.Alive(1) {
					a.feed(1, wild.bytes(10))
				}
				continue
			case n < 6:
				o = op(r, a.s.Desk())
			case n < 7:
				o = api.Op{Kind: api.DoDrain, A: 2, B: r.Intn(200)}
			default:
				o.S = good.bytes(1000)
			}
			if !a.s.Alive(2) && o.Kind == api.DoFeed {
				continue
			}
			a.do(o, nil)
			b.do(o, nil)
			same(t, a, b, 2)
		}
		if !a.s.Alive(1) {
			wrongs++
		}
		if !b.s.Alive(1) || b.rest(1) != "" {
			t.Fatal("who sent nothing is told something")
		}
	}
	if wrongs < 20 || wrongs > 199 {
		t.Error("clients that were cut off:", wrongs)
	}
}

// T4, P27.3: where one sends what is none the others are told what they would be told, had it hung up.
func TestWhoIsWrongIsAsOneThatHangsUp(t *testing.T) {
	for seed := range 200 {
		r := rand.New(rand.NewSource(int64(seed)))
		a, b := ready(t, 3), ready(t, 3)
		var lives []*life
		for c := 1; c <= 3; c++ {
			lives = append(lives, born(r, a.s.Desk(), c, true))
			lives[c-1].text = ""
		}
		for i := range 200 {
			c := 1 + r.Intn(3)
			o := op(r, a.s.Desk())
			if r.Intn(3) > 0 {
				o = api.Op{Kind: api.DoFeed, A: c, S: lives[c-1].bytes(1000)}
			}
			if o.Kind == api.DoFeed && !a.s.Alive(c) {
				continue
			}
			a.do(o, nil)
			b.do(o, nil)
			if i == 100 && a.s.Alive(1) {
				a.feed(1, lives[0].text, strings.Repeat("\x00", 8+r.Intn(8)))
				b.feed(1, lives[0].text)
				b.s.Do(api.Op{Kind: api.DoHang, A: 1})
				a.alive(1, false)
				b.alive(1, false)
			}
			a.rest(c)
			b.rest(c)
			same(t, a, b, 2)
			same(t, a, b, 3)
		}
	}
}

// T1, R4: the same operations are told the same, and two servers have nothing in common.
func TestServersAreTheirOwn(t *testing.T) {
	a, b, c := begin(t, 4096, 1), begin(t, 4096, 1), begin(t, 30, 0)
	for i, k := range []*trial{a, b} {
		k.memory(1)
		k.feed(1, begun(), sync(100))
		if i == 0 {
			k.rest(1)
			k.show(1, 20)
			k.tick(5)
			k.do(api.Op{Kind: api.DoMotion, A: 1, B: 1}, nil)
			k.do(api.Op{Kind: api.DoHang, A: 1}, nil)
		}
	}
	c.do(api.Op{Kind: api.DoConnect}, nil)
	c.feed(1, sync(2), sync(2))
	c.alive(1, false)
	b.alive(1, true)
	if !strings.HasSuffix(b.rest(1), done(100, 0)) || b.s.Desk() == a.s.Desk() {
		t.Error("the two have something in common")
	}
	b.show(1, 20)
	b.tick(6)
	b.told(1, msg(10, 0, 2, 20, 0, 0), msg(11, 0, 3, 20))
}

// R1: no operation panics, whatever it is.
func TestAnyOperation(t *testing.T) {
	l := far()
	for seed := range 60 {
		r := rand.New(rand.NewSource(int64(seed)))
		k := ready(t, 2)
		k.show(1, 20)
		for range 300 {
			b := make([]byte, r.Intn(20))
			r.Read(b)
			n := func() int { return l[r.Intn(len(l))] }
			o := api.Op{Kind: r.Intn(16) - 1, A: n(), B: n(), C: n(), S: string(b)}
			if r.Intn(2) == 0 {
				o.A = r.Intn(3)
			}
			if o.Kind == api.DoHang && r.Intn(9) > 0 {
				continue
			}
			if e := k.s.Do(o); e != nil && which(e) != api.ErrArg && which(e) != api.ErrGone && which(e) != api.ErrFull && which(e) != api.ErrFile && which(e) != api.ErrStride {
				t.Fatalf("%+v: %v", o, e)
			}
		}
	}
}

// P27.2: behind each Do that is not refused what the desk has to say is told, wherever it comes from; an error is behind it.
func TestBehindEachDo(t *testing.T) {
	for kind := 0; kind <= 13; kind++ {
		k := ready(t, 2)
		k.s.Desk().Ping(2)
		k.quiet()
		if e := k.s.Do(api.Op{Kind: kind, A: 2, B: 1, C: 64, S: ""}); e == nil {
			want := msg(7, 0, 1)
			if kind == api.DoHang {
				want = ""
			} else if kind == api.DoPing {
				want = msg(7, 0, 1) // one waits
			}
			k.told(2, want)
		}
		k.quiet()
	}
	for _, zero := range []string{strings.Repeat("\x00", 8), msg(99, 0)} {
		k := ready(t, 2)
		k.s.Desk().Ping(2)
		k.feed(2, zero)
		if got := k.rest(2); !strings.HasPrefix(got, msg(7, 0, 1)+msg(1, 0, 1)[:6]) || len(got) <= 12 {
			t.Errorf("%q", got)
		}
	}
}

// R1: clients that come and go on the desk itself are no reason to panic.
func TestDeskIsTurned(t *testing.T) {
	k := ready(t, 1)
	k.feed(1, sync(100))
	k.s.Desk().Drop(1)
	if k.s.Alive(1) || k.s.Waits(1) != 24 {
		t.Error("dropped, and there")
	}
	k.do(api.Op{Kind: api.DoFeed, A: 1, S: sync(2)}, api.ErrGone)
	k.do(api.Op{Kind: api.DoHang, A: 1}, api.ErrGone)
	k.told(1, done(100, 0))
	if c, e := k.s.Desk().Connect(); c != 2 || e != nil {
		t.Fatal(c, e)
	}
	for kind := range 14 {
		k.s.Do(api.Op{Kind: kind, A: 2, B: 1, C: 1})
	}
	k.do(api.Op{Kind: api.DoConnect}, nil)
	k.alive(4, true)
	k.feed(4, sync(2))
	k.told(4, done(2, 0))
}
