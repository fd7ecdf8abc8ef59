package ping_test

import (
	"math"
	"math/big"
	"math/rand"
	"testing"

	"tableau/api"
	"tableau/ping"
)

// far are numbers at the ends of what a number may be, and about 0.
func far() []int {
	l := []int{-1 << 32, 1 << 32, math.MinInt32, math.MaxInt32}
	for n := range 7 {
		l = append(l, n, -n, math.MinInt+n, math.MaxInt-n)
	}
	return l
}

// late is what the document says of one that waits, with numbers of any size.
func late(since, tick int) bool {
	d := new(big.Int).Sub(big.NewInt(int64(tick)), big.NewInt(int64(since)))
	return d.Cmp(big.NewInt(3)) > 0
}

// waits wants this one to wait.
func waits(t *testing.T, p *ping.Ping, serial int) {
	t.Helper()
	if n, ok := p.Waits(); n != serial || !ok {
		t.Fatalf("waits: %d, %v, not %d", n, ok, serial)
	}
}

// idle wants none to wait, whatever is asked.
func idle(t *testing.T, p *ping.Ping) {
	t.Helper()
	if n, ok := p.Waits(); n != 0 || ok {
		t.Fatalf("waits: %d, %v, where none does", n, ok)
	}
	for _, n := range far() {
		if p.Late(n) {
			t.Fatalf("late at %d, where none waits", n)
		}
		if p.Pong(n) {
			t.Fatalf("a pong of %d, where none waits", n)
		}
	}
}

// asked is a ping of which one waits.
func asked(t *testing.T, serial, tick int) *ping.Ping {
	t.Helper()
	p := ping.New()
	if !p.Ask(serial, tick) {
		t.Fatalf("%d at %d is not asked", serial, tick)
	}
	return p
}

// P21.1: the document's example.
func TestExample(t *testing.T) {
	p := asked(t, 5, 1)
	if p.Late(4) || !p.Late(5) {
		t.Errorf("at 4: %v, at 5: %v", p.Late(4), p.Late(5))
	}
}

// P21.1: at first nothing waits, and so nothing is late, and no answer is one.
func TestNew(t *testing.T) {
	idle(t, ping.New())
}

// P21.1: any serial may wait, at any tick, zeros too; then no other one may, nor the same again, and what is refused turns nothing.
func TestAsk(t *testing.T) {
	for _, serial := range far() {
		for _, tick := range far() {
			p := asked(t, serial, tick)
			waits(t, p, serial)
			for _, n := range far() {
				if p.Ask(n, tick) || p.Ask(serial, n) || p.Ask(n, n) {
					t.Fatalf("asked, while %d waits", serial)
				}
				if got := p.Late(n); got != late(tick, n) {
					t.Fatalf("since %d, at %d: late %v", tick, n, got)
				}
			}
			waits(t, p, serial)
		}
	}
}

// P21.1: only an answer with the serial that waits is one, and it is one once; then another one may be asked.
func TestPong(t *testing.T) {
	for _, serial := range far() {
		for _, tick := range []int{0, 7, math.MinInt, math.MaxInt} {
			p := asked(t, serial, tick)
			for _, n := range far() {
				if n != serial && p.Pong(n) {
					t.Fatalf("a pong of %d, where %d waits", n, serial)
				}
				waits(t, p, serial)
			}
			if !p.Pong(serial) {
				t.Fatalf("no pong of %d", serial)
			}
			idle(t, p)
			if !p.Ask(serial, tick) {
				t.Fatalf("%d is not asked again", serial)
			}
			waits(t, p, serial)
		}
	}
}

// P21.1: one is late from MaxLate + 1 ticks on, of any two ticks, those that are further apart than an int tells too.
func TestLate(t *testing.T) {
	for _, since := range far() {
		p := asked(t, 1, since)
		for _, tick := range far() {
			if got := p.Late(tick); got != late(since, tick) {
				t.Errorf("since %d, at %d: %v", since, tick, got)
			}
		}
	}
	for _, since := range []int{-9, -2, 0, 1, 100, math.MinInt, math.MaxInt - api.MaxLate - 1} {
		p := asked(t, 0, since)
		if p.Late(since) || p.Late(since+api.MaxLate) || !p.Late(since+api.MaxLate+1) {
			t.Errorf("since %d: %v, %v, %v", since, p.Late(since), p.Late(since+api.MaxLate), p.Late(since+api.MaxLate+1))
		}
	}
}

// P21.1: near the end of all ticks none is late any more.
func TestLateNever(t *testing.T) {
	for n := range api.MaxLate + 1 {
		p := asked(t, 2, math.MaxInt-n)
		for _, tick := range far() {
			if p.Late(tick) {
				t.Errorf("since %d, at %d: late", math.MaxInt-n, tick)
			}
		}
	}
}

// P21.1: one that is late waits still, and its answer is taken; the next one's ticks are its own.
func TestLateAnswer(t *testing.T) {
	p := asked(t, 5, 1)
	if !p.Late(9) {
		t.Fatal("not late")
	}
	waits(t, p, 5)
	if p.Ask(6, 9) || !p.Late(9) || !p.Pong(5) {
		t.Fatal("one that is late waits still")
	}
	if p.Late(9) || !p.Ask(6, 9) || p.Late(12) || !p.Late(13) {
		t.Fatal("the ticks of the next one")
	}
}

// model is what the document says, in other words: those that wait, each with its tick.
type model [][2]int

func (m *model) ask(serial, tick int) bool {
	if len(*m) > 0 {
		return false
	}
	*m = append(*m, [2]int{serial, tick})
	return true
}

func (m *model) pong(serial int) bool {
	if len(*m) == 0 || (*m)[0][0] != serial {
		return false
	}
	*m = nil
	return true
}

func (m *model) late(tick int) bool { return len(*m) > 0 && late((*m)[0][1], tick) }

func (m *model) waits() (int, bool) {
	if len(*m) == 0 {
		return 0, false
	}
	return (*m)[0][0], true
}

// P21.1: any calls, one behind the other, answer what the document says.
func TestAny(t *testing.T) {
	rnd := rand.New(rand.NewSource(21))
	ends := far()
	number := func() int {
		if rnd.Intn(3) == 0 {
			return ends[rnd.Intn(len(ends))]
		}
		return rnd.Intn(9)
	}
	for range 300 {
		p, m := ping.New(), &model{}
		for range 60 {
			a, b := number(), number()
			switch rnd.Intn(3) {
			case 0:
				if got, want := p.Ask(a, b), m.ask(a, b); got != want {
					t.Fatalf("ask %d at %d: %v", a, b, got)
				}
			case 1:
				if n, ok := m.waits(); ok && rnd.Intn(3) == 0 {
					a = n
				}
				if got, want := p.Pong(a), m.pong(a); got != want {
					t.Fatalf("pong %d: %v", a, got)
				}
			default:
				if got, want := p.Late(b), m.late(b); got != want {
					t.Fatalf("late at %d: %v", b, got)
				}
			}
			n, ok := p.Waits()
			if want, is := m.waits(); n != want || ok != is {
				t.Fatalf("waits: %d, %v, not %d, %v", n, ok, want, is)
			}
		}
	}
}

// R4: to ask for what waits, or whether it is late, turns nothing, and two have nothing in common.
func TestApart(t *testing.T) {
	a, b := asked(t, 1, 10), ping.New()
	idle(t, b)
	if !b.Ask(2, 20) {
		t.Fatal("not asked")
	}
	for range 3 {
		waits(t, a, 1)
		waits(t, b, 2)
		if !a.Late(14) || b.Late(14) || b.Late(23) || !b.Late(24) {
			t.Fatal("late")
		}
	}
	if a.Pong(2) || b.Pong(1) || !b.Pong(2) {
		t.Fatal("pong")
	}
	idle(t, b)
	waits(t, a, 1)
}
