package server_test

import (
	"errors"
	"math/rand"
	"slices"
	"testing"

	"tableau/api"
	"tableau/desk"
	"tableau/server"
)

// person is a client of the model: its bytes that are no message yet, what waits for it, what it has read.
type person struct {
	fed, waits, read string
	gone             bool
}

// model is a server as the document says it: a desk, and texts. How often clients were cut off, and why, is counted.
type model struct {
	d      *desk.Desk
	room   int
	people []*person // the client n at n - 1
	ends   map[string]int
}

// person is a client that there is, or was.
func (m *model) person(c int) *person {
	if c < 1 || c > len(m.people) {
		return nil
	}
	return m.people[c-1]
}

// cut cuts a client off.
func (m *model) cut(c int, why string) {
	if p := m.person(c); !p.gone {
		p.gone = true
		m.d.Drop(c)
		m.ends[why]++
	}
}

// put puts a message where a client's wait; not, if there is no room.
func (m *model) put(p *person, text string) bool {
	if len(p.waits)+len(text) > m.room {
		return false
	}
	p.waits += text
	return true
}

// flush puts what the desk has to say where it waits.
func (m *model) flush() {
	for i, p := range m.people {
		for _, e := range m.d.Events(i + 1) {
			var args []any
			for _, a := range e.Msg.Args {
				if a.Kind == 's' {
					args = append(args, a.S)
				} else {
					args = append(args, a.N)
				}
			}
			if !m.put(p, msg(e.Msg.Object, e.Msg.Op, args...)) {
				m.cut(i+1, "full")
				break
			}
		}
	}
}

// codes are the codes of the errors, spelt without the packages.
var codes = map[error]int{
	api.ErrObject: 0, api.ErrArg: 0, api.ErrMethod: 1, api.ErrBytes: 1, api.ErrShort: 1, api.ErrBig: 2, api.ErrFull: 2, api.ErrFormat: 3,
	api.ErrStride: 4, api.ErrFile: 5, api.ErrRole: 6, api.ErrPlace: 7, api.ErrState: 8, api.ErrSerial: 9,
}

// fail tells a client what is wrong, and cuts it off.
func (m *model) fail(c int, text, why string) {
	if !m.put(m.person(c), text) {
		m.ends["untold"]++
	}
	m.cut(c, why)
}

// feed is bytes more of a client's.
func (m *model) feed(c int, text string) {
	p := m.person(c)
	p.fed += text
	for !p.gone && len(p.fed) >= 8 {
		size := number(p.fed[4:]) >> 16
		switch {
		case size < 8 || size%4 != 0:
			m.fail(c, wrong(1, 1, "bytes"), "bytes")
			return
		case size > 4096:
			m.fail(c, wrong(1, 2, "big"), "big")
			return
		case len(p.fed) < size:
			return
		}
		r := api.Raw{Object: number(p.fed), Op: number(p.fed[4:]) & 0xffff, Body: p.fed[8:size]}
		p.fed = p.fed[size:]
		e := m.d.Handle(c, r)
		m.flush()
		if f := (*api.Fault)(nil); errors.As(e, &f) {
			m.fail(c, wrong(f.Object, codes[which(f.Why)], which(f.Why).Error()), "fault")
		}
	}
}

// drain lets a client read.
func (m *model) drain(p *person, n int) {
	n = min(max(n, 0), len(p.waits))
	p.read, p.waits = p.read+p.waits[:n], p.waits[n:]
}

// do does an operation that may be done.
func (m *model) do(o api.Op) error {
	p := m.person(o.A)
	there := p != nil && !p.gone
	var late []int
	switch {
	case o.Kind == api.DoConnect:
		if len(m.people) == 6 {
			return api.ErrFull
		}
		m.d.Connect()
		m.people = append(m.people, &person{})
	case o.Kind == api.DoDrain:
		if p == nil {
			return api.ErrGone
		}
		m.drain(p, o.B)
	case !there && (o.Kind == api.DoFeed || o.Kind == api.DoHang || o.Kind == api.DoMemory || o.Kind == api.DoWrite):
		return api.ErrGone
	case o.Kind == api.DoFeed:
		m.feed(o.A, o.S)
	case o.Kind == api.DoHang:
		m.cut(o.A, "hung")
		p.waits = ""
	case o.Kind == api.DoMemory:
		return m.d.Memory(o.A, o.B, o.C)
	case o.Kind == api.DoWrite:
		return m.d.Write(o.A, o.B, o.C, []byte(o.S))
	case o.Kind == api.DoTick:
		late = m.d.Tick(o.A)
	case o.Kind == api.DoMotion:
		m.d.Motion(o.A, o.B)
	case o.Kind == api.DoButton:
		m.d.Button(o.A, o.B != 0)
	case o.Kind == api.DoKey:
		m.d.Key(o.A, o.B != 0)
	case o.Kind == api.DoResize:
		m.d.Resize(o.A, o.B)
	case o.Kind == api.DoPing:
		m.d.Ping(o.A)
	default:
		return api.ErrArg
	}
	m.flush()
	for _, c := range late {
		m.cut(c, "late")
	}
	return nil
}

// which is which of the errors there are an error is.
func which(e error) error {
	for _, k := range known {
		if errors.Is(e, k) {
			return k
		}
	}
	return e
}

// pair is a server, and a model of it, to which the same comes.
type pair struct {
	*trial
	m     *model
	r     *rand.Rand
	lives []*life
}

// both does an operation in both, and wants both to be alike behind it.
func (k *pair) both(o api.Op) {
	k.Helper()
	want := which(k.m.do(o))
	k.do(o, want)
	for c := range 8 {
		p := k.m.person(c)
		if p == nil {
			p = &person{gone: true}
		}
		if k.s.Alive(c) == p.gone || k.s.Waits(c) != len(p.waits) || k.s.Read(c) != p.read {
			a, _ := cut(k.s.Read(c))
			b, _ := cut(p.read)
			k.Fatalf("%+v: client %d: %v, %d, %q\nnot %v, %d, %q", o, c, k.s.Alive(c), k.s.Waits(c), a, !p.gone, len(p.waits), b)
		}
		for id := range 64 {
			if k.s.Desk().Face(c, id) != k.m.d.Face(c, id) {
				k.Fatalf("%+v: client %d has not %d", o, c, id)
			}
		}
	}
	if !slices.Equal(k.s.Screen(), k.m.d.Screen()) || !slices.Equal(k.s.Desk().Views(), k.m.d.Views()) || k.s.Desk().Serial() != k.m.d.Serial() {
		k.Fatalf("%+v: another screen, or other views, or serials", o)
	}
}

// join is one client more, if there is room.
func (k *pair) join() {
	k.both(api.Op{Kind: api.DoConnect})
	if c := len(k.lives) + 1; c <= 6 {
		k.both(api.Op{Kind: api.DoMemory, A: c, B: 1, C: 64})
		k.lives = append(k.lives, born(k.r, k.m.d, c, true))
		// There is no room for what begun asks for.
		if k.m.room < 100 {
			k.lives[c-1].text = ""
		}
	}
}

// answer lets a client read what waits, and answer what it is asked there: which serial does not matter, as another one does nothing.
func (k *pair) answer(c int) {
	k.both(api.Op{Kind: api.DoDrain, A: c, B: api.MaxOut})
	if k.m.d.Face(c, 7) == api.WmBase && k.lives[c-1].text == "" {
		for n := range 8 {
			k.lives[c-1].text += msg(7, 2, k.m.d.Serial()-n)
		}
	}
}

// step is one operation, by chance.
func (k *pair) step() {
	c := 1 + k.r.Intn(len(k.lives))
	switch n := k.r.Intn(200); {
	case n < 3:
		k.join()
	case n == 3 && k.r.Intn(3) == 0:
		k.both(api.Op{Kind: api.DoHang, A: c})
	case n < 8:
		k.both(api.Op{Kind: api.DoMemory, A: c, B: k.r.Intn(3), C: 64 + k.r.Intn(10)})
	case n < 16:
		k.both(api.Op{Kind: api.DoWrite, A: c, B: k.r.Intn(3), C: k.r.Intn(64), S: "\x00\x80\x40\xff abcdefg"[:k.r.Intn(12)]})
	case n < 20:
		k.both(api.Op{Kind: api.DoPing, A: c})
	case n < 60:
		k.answer(c)
	case n < 65:
		k.both(api.Op{Kind: api.DoDrain, A: k.r.Intn(8), B: k.r.Intn(30) - 3})
	case n < 66:
		k.both(api.Op{Kind: k.r.Intn(16) - 1, A: k.r.Intn(9) - 1, B: k.r.Intn(3) - 1, C: k.r.Intn(9)})
	case n < 110:
		k.both(op(k.r, k.m.d))
	default:
		k.both(api.Op{Kind: api.DoFeed, A: c, S: k.lives[c-1].bytes(40)})
	}
}

// P27.1, P27.2, T1: whatever comes, a server is what the document says, step by step.
func TestModel(t *testing.T) {
	ends := map[string]int{}
	shown := 0
	for seed := range 300 {
		r := rand.New(rand.NewSource(int64(seed)))
		room := []int{4096, 4096, 16384, 400, 256, 27, 43}[seed%7]
		s, e := server.New(16, 12, room)
		d, f := desk.New(16, 12)
		if e != nil || f != nil {
			t.Fatal(e, f)
		}
		k := &pair{&trial{t, s}, &model{d: d, room: room, ends: ends}, r, nil}
		k.join()
		for range 400 {
			k.step()
			shown += len(d.Views())
		}
		for c := 1; c <= len(k.lives); c++ {
			k.lastIsTheError(c)
		}
	}
	for _, why := range []string{"full", "bytes", "big", "fault", "hung", "late", "untold"} {
		if ends[why] < 10 {
			t.Error("too few clients were cut off by that:", why, ends[why])
		}
	}
	if shown < 300*400/3 {
		t.Error("too few windows are seen:", shown)
	}
}

// lastIsTheError wants all that a client was told to be whole messages, of which none but the last one is an error, and that only if it is cut off.
func (k *pair) lastIsTheError(c int) {
	k.Helper()
	p := k.m.person(c)
	l, left := cut(p.read + k.rest(c))
	for i, s := range l {
		if isError(s) && (i+1 < len(l) || !p.gone) {
			k.Errorf("client %d is told %q, and %d more", c, s, len(l)-i-1)
		}
	}
	if left != "" && !p.gone {
		k.Errorf("client %d is told half a message: %q", c, left)
	}
}
