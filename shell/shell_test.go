package shell_test

import (
	"errors"
	"math"
	"slices"
	"strconv"
	"strings"
	"testing"

	"tableau/api"
	"tableau/shell"
)

// known are all errors there are: an answer must be just one of them.
var known = []error{
	api.ErrArg, api.ErrShort, api.ErrBytes, api.ErrBig, api.ErrObject, api.ErrMethod, api.ErrFormat, api.ErrStride,
	api.ErrFile, api.ErrRole, api.ErrPlace, api.ErrState, api.ErrSerial, api.ErrFull, api.ErrGone, api.ErrSheet,
}

// far are numbers at the ends of what a number may be, and where parts of it end.
var far = []int{math.MinInt, -1 << 32, -1 << 31, -1, 0, 1, 1 << 31, 1 << 32, 1<<32 + 1, math.MaxInt}

// just tells whether e is want, and none of the others.
func just(e, want error) bool {
	for _, k := range known {
		if errors.Is(e, k) != (k == want) {
			return false
		}
	}
	return (e == nil) == (want == nil)
}

// is wants a call to have answered that error, or none.
func is(t *testing.T, what string, e, want error) {
	t.Helper()
	if !just(e, want) {
		t.Fatalf("%s: %v, not %v", what, e, want)
	}
}

// commit wants a commit to answer these, of whichever attach.
func commit(t *testing.T, s *shell.Shell, id int, attach, buffer bool, want int, why error) {
	t.Helper()
	if n, e := s.Commit(id, attach, buffer); n != want || !just(e, why) {
		t.Fatalf("commit of %d, attach %v, buffer %v: %d %v, not %d %v", id, attach, buffer, n, e, want, why)
	}
}

// waits wants these serials to wait.
func waits(t *testing.T, s *shell.Shell, id int, want ...int) {
	t.Helper()
	if l := s.Waits(id); !slices.Equal(l, want) {
		t.Fatalf("of %d wait %v, not %v", id, l, want)
	}
}

// send sends serials to a toplevel.
func send(t *testing.T, s *shell.Shell, id int, serials ...int) {
	t.Helper()
	for _, n := range serials {
		is(t, "send", s.Send(id, n), nil)
	}
}

// The steps that a window may be at, and none at all.
const (
	none = iota
	bare
	top
	asked
	ready
	mapped
	all
)

// walk takes the window id to a step, on the straight way; no serial waits there.
func walk(t *testing.T, s *shell.Shell, id, step int) {
	t.Helper()
	for at := bare; at <= step; at++ {
		switch at {
		case bare:
			is(t, "add", s.Add(id, false), nil)
		case top:
			is(t, "top", s.Top(id), nil)
		case asked:
			commit(t, s, id, false, false, 1, nil)
		case ready:
			send(t, s, id, 70)
			is(t, "ack", s.Ack(id, 70), nil)
		case mapped:
			commit(t, s, id, true, true, 2, nil)
		}
	}
}

// at is a shell with the window 1 at a step, and with these serials waiting.
func at(t *testing.T, step int, serials ...int) *shell.Shell {
	t.Helper()
	s := shell.New()
	walk(t, s, 1, step)
	send(t, s, 1, serials...)
	return s
}

// seen is what may be asked of a window.
func seen(s *shell.Shell, id int) string {
	var b strings.Builder
	for _, yes := range []bool{s.Has(id), s.IsTop(id), s.Mapped(id)} {
		b.WriteString(strconv.FormatBool(yes) + " ")
	}
	for _, n := range s.Waits(id) {
		b.WriteString(strconv.Itoa(n) + " ")
	}
	return b.String()
}

// tried is what may be asked of a window, and what it answers to what tells its step; the shell is of no use behind it.
func tried(s *shell.Shell, id int) string {
	b := seen(s, id)
	for _, buffer := range []bool{true, false, true, false} {
		n, e := s.Commit(id, true, buffer)
		b += "; " + strconv.Itoa(n)
		if e != nil {
			b += " " + e.Error()
		}
	}
	return b + "; " + seen(s, id)
}

// wantTried wants a window to be as another one, that came to its step on the straight way.
func wantTried(t *testing.T, what string, s *shell.Shell, step int, serials ...int) {
	t.Helper()
	if got, want := tried(s, 1), tried(at(t, step, serials...), 1); got != want {
		t.Fatalf("%s: %s, not %s", what, got, want)
	}
}

// P18.1 to P18.3: the document's example.
func TestExample(t *testing.T) {
	s := shell.New()
	is(t, "add", s.Add(1, false), nil)
	is(t, "top", s.Top(1), nil)
	commit(t, s, 1, false, false, 1, nil)
	is(t, "send", s.Send(1, 7), nil)
	is(t, "ack", s.Ack(1, 7), nil)
	commit(t, s, 1, true, true, 2, nil)
	if !s.Mapped(1) {
		t.Error("not mapped")
	}
}

// P18.1: what there is at each step, and nothing of numbers that are no window's.
func TestAsk(t *testing.T) {
	for step := none; step < all; step++ {
		s := at(t, step)
		if s.Has(1) != (step >= bare) || s.IsTop(1) != (step >= top) || s.Mapped(1) != (step == mapped) {
			t.Error(step, s.Has(1), s.IsTop(1), s.Mapped(1))
		}
		waits(t, s, 1)
		for _, id := range []int{0, 2, -1, 1 << 32, 1<<32 + 1} {
			if s.Has(id) || s.IsTop(id) || s.Mapped(id) || len(s.Waits(id)) != 0 {
				t.Error(step, id)
			}
		}
	}
}

// P18.1: Add: of none alone, and not with a buffer; that there is one is told first.
func TestAdd(t *testing.T) {
	for step := none; step < all; step++ {
		for _, buffer := range []bool{false, true} {
			s, why, then := at(t, step), api.ErrRole, step
			switch {
			case step == none && buffer:
				why = api.ErrState
			case step == none:
				why, then = nil, bare
			}
			is(t, "add at "+strconv.Itoa(step), s.Add(1, buffer), why)
			wantTried(t, "behind add", s, then)
		}
	}
}

// P18.1: Drop, Top, Untop at each step: what they answer, and what is there behind them.
func TestTurn(t *testing.T) {
	for _, x := range []struct {
		name string
		call func(*shell.Shell) error
		why  [all]error
		then [all]int
	}{
		{
			"drop", func(s *shell.Shell) error { return s.Drop(1) },
			[all]error{api.ErrObject, nil, api.ErrState, api.ErrState, api.ErrState, api.ErrState},
			[all]int{none, none, top, asked, ready, mapped},
		},
		{
			"top", func(s *shell.Shell) error { return s.Top(1) },
			[all]error{api.ErrObject, nil, api.ErrRole, api.ErrRole, api.ErrRole, api.ErrRole},
			[all]int{none, top, top, asked, ready, mapped},
		},
		{
			"untop", func(s *shell.Shell) error { return s.Untop(1) },
			[all]error{api.ErrObject, api.ErrObject, nil, nil, nil, nil},
			[all]int{none, bare, bare, bare, bare, bare},
		},
	} {
		for step := none; step < all; step++ {
			s := at(t, step)
			is(t, x.name+" at "+strconv.Itoa(step), x.call(s), x.why[step])
			wantTried(t, x.name+" behind "+strconv.Itoa(step), s, x.then[step])
		}
	}
}

// P18.1: a toplevel that is none any more has no serials, now and when it is one again; it has to go all the way once more, or may go.
func TestUntop(t *testing.T) {
	for step := top; step <= mapped; step++ {
		s := at(t, step, 5, 6)
		is(t, "untop", s.Untop(1), nil)
		waits(t, s, 1)
		is(t, "ack", s.Ack(1, 5), api.ErrState)
		is(t, "untop twice", s.Untop(1), api.ErrObject)
		is(t, "top", s.Top(1), nil)
		waits(t, s, 1)
		is(t, "ack", s.Ack(1, 6), api.ErrSerial)
		commit(t, s, 1, true, true, 0, api.ErrState)
		commit(t, s, 1, false, false, 1, nil)
		is(t, "untop", s.Untop(1), nil)
		is(t, "drop", s.Drop(1), nil)
		is(t, "drop twice", s.Drop(1), api.ErrObject)
		is(t, "add", s.Add(1, false), nil)
		wantTried(t, "all anew", s, bare)
	}
}

// P18.2: Send at each step: none but toplevels are sent any; the step stays.
func TestSend(t *testing.T) {
	for step := none; step < all; step++ {
		s := at(t, step)
		if step < top {
			is(t, "send", s.Send(1, 5), api.ErrObject)
			wantTried(t, "behind send", s, step)
			continue
		}
		for i, n := range far {
			is(t, "send", s.Send(1, n), nil)
			waits(t, s, 1, far[:i+1]...)
		}
		is(t, "send again", s.Send(1, 0), nil)
		waits(t, s, 1, append(slices.Clone(far), 0)...)
		wantTried(t, "behind send", s, step, append(slices.Clone(far), 0)...)
	}
}

// P18.2: Ack at each step, of what waits and of what does not: an asked one is ready, the others stay.
func TestAck(t *testing.T) {
	for step := none; step < all; step++ {
		s := at(t, step)
		why := api.ErrSerial
		switch step {
		case none:
			why = api.ErrObject
		case bare:
			why = api.ErrState
		}
		is(t, "ack of nothing", s.Ack(1, 0), why)
		wantTried(t, "behind ack of nothing", s, step)
		if step < top {
			continue
		}
		s = at(t, step, 5, 6, 7)
		is(t, "ack of another one", s.Ack(1, 4), api.ErrSerial)
		waits(t, s, 1, 5, 6, 7)
		wantTried(t, "behind ack of another one", s, step, 5, 6, 7)
		s = at(t, step, 5, 6, 7)
		is(t, "ack", s.Ack(1, 6), nil)
		then := step
		if step == asked {
			then = ready
		}
		wantTried(t, "behind ack", s, then, 7)
	}
}

// P18.2: a serial and those ahead of it wait no more, by where they are, not by how great they are; of one that waits twice the first is acked.
func TestAckOrder(t *testing.T) {
	s := at(t, asked, 9, 3, 7, 3, 8)
	is(t, "ack", s.Ack(1, 3), nil)
	waits(t, s, 1, 7, 3, 8)
	is(t, "ack of one ahead", s.Ack(1, 9), api.ErrSerial)
	waits(t, s, 1, 7, 3, 8)
	is(t, "ack of the other one", s.Ack(1, 3), nil)
	waits(t, s, 1, 8)
	is(t, "ack of none", s.Ack(1, 3), api.ErrSerial)
	send(t, s, 1, 3, 1)
	waits(t, s, 1, 8, 3, 1)
	is(t, "ack of the first", s.Ack(1, 8), nil)
	waits(t, s, 1, 3, 1)
	is(t, "ack of the last", s.Ack(1, 1), nil)
	waits(t, s, 1)
	is(t, "ack of the last, twice", s.Ack(1, 1), api.ErrSerial)
}

// P18.2, R5: any serial is one, told apart to the last bit.
func TestAckFar(t *testing.T) {
	for i, n := range far {
		s := at(t, asked, far...)
		is(t, "ack of another one", s.Ack(1, 12345), api.ErrSerial)
		is(t, "ack", s.Ack(1, n), nil)
		waits(t, s, 1, far[i+1:]...)
		is(t, "ack twice", s.Ack(1, n), api.ErrSerial)
	}
}

// P18.2: an ack ahead of being asked takes its serial, but the toplevel is not ready by it; it is when it has been asked and acks another one.
func TestAckAhead(t *testing.T) {
	s := at(t, top, 4, 5)
	is(t, "ack", s.Ack(1, 4), nil)
	commit(t, s, 1, true, true, 0, api.ErrState)
	commit(t, s, 1, false, false, 1, nil)
	commit(t, s, 1, true, true, 0, api.ErrState)
	waits(t, s, 1, 5)
	is(t, "ack", s.Ack(1, 4), api.ErrSerial)
	commit(t, s, 1, true, true, 0, api.ErrState)
	is(t, "ack", s.Ack(1, 5), nil)
	commit(t, s, 1, true, true, 2, nil)
}

// P18.3: Commit at each step, with a buffer and without: attach plays no part, and serials wait on but where a mapped one is hidden.
func TestCommit(t *testing.T) {
	for step, x := range [all][2]struct {
		n    int
		why  error
		then int
	}{
		none:   {{0, api.ErrObject, none}, {0, api.ErrObject, none}},
		bare:   {{0, api.ErrState, bare}, {0, api.ErrState, bare}},
		top:    {{1, nil, asked}, {0, api.ErrState, top}},
		asked:  {{0, nil, asked}, {0, api.ErrState, asked}},
		ready:  {{0, nil, ready}, {2, nil, mapped}},
		mapped: {{3, nil, top}, {0, nil, mapped}},
	} {
		for i, y := range x {
			for _, attach := range []bool{false, true} {
				var serials []int
				if step >= top {
					serials = []int{8, 9}
				}
				s := at(t, step, serials...)
				commit(t, s, 1, attach, i == 1, y.n, y.why)
				if y.n == 3 {
					serials = nil
				}
				waits(t, s, 1, serials...)
				if s.Mapped(1) != (y.then == mapped) {
					t.Error(step, i, attach, s.Mapped(1))
				}
				wantTried(t, "behind commit", s, y.then, serials...)
			}
		}
	}
}

// P18.3: a window that is hidden goes all the way once more: what was sent ahead is acked no more.
func TestAgain(t *testing.T) {
	s := at(t, mapped, 5, 6)
	for range 3 {
		commit(t, s, 1, true, false, 3, nil)
		waits(t, s, 1)
		is(t, "ack", s.Ack(1, 6), api.ErrSerial)
		commit(t, s, 1, true, true, 0, api.ErrState)
		commit(t, s, 1, false, false, 1, nil)
		commit(t, s, 1, false, false, 0, nil)
		commit(t, s, 1, true, true, 0, api.ErrState)
		send(t, s, 1, 5, 6)
		is(t, "ack", s.Ack(1, 5), nil)
		commit(t, s, 1, false, false, 0, nil)
		commit(t, s, 1, true, true, 2, nil)
		commit(t, s, 1, false, true, 0, nil)
		waits(t, s, 1, 6)
		is(t, "drop", s.Drop(1), api.ErrState)
	}
}

// P18.1, R5: any number is a window's; windows have nothing in common.
func TestFar(t *testing.T) {
	s := shell.New()
	for i, id := range far {
		walk(t, s, id, bare+i%mapped)
		if s.IsTop(id) {
			send(t, s, id, i)
		}
	}
	for i, id := range far {
		step := bare + i%mapped
		if !s.Has(id) || s.IsTop(id) != (step >= top) || s.Mapped(id) != (step == mapped) {
			t.Error(i, id, seen(s, id))
		}
		if step >= top {
			waits(t, s, id, i)
			is(t, "untop", s.Untop(id), nil)
		}
		is(t, "drop", s.Drop(id), nil)
		for j, other := range far {
			if s.Has(other) != (j > i) {
				t.Error(i, j)
			}
		}
	}
}

// R4: two shells have nothing in common.
func TestTwo(t *testing.T) {
	a, b := at(t, mapped, 3), shell.New()
	if b.Has(1) || b.Mapped(1) || len(b.Waits(1)) != 0 {
		t.Error(seen(b, 1))
	}
	walk(t, b, 1, asked)
	send(t, b, 1, 4)
	is(t, "ack of the other one's", b.Ack(1, 3), api.ErrSerial)
	is(t, "untop", b.Untop(1), nil)
	is(t, "drop", b.Drop(1), nil)
	wantTried(t, "the other one", a, mapped, 3)
}

// R3: what Waits answers is new memory each time, spare room too.
func TestMemory(t *testing.T) {
	s := at(t, top, 1, 2, 3, 4, 5)
	scribble := func() {
		l := s.Waits(1)
		l = l[:cap(l)]
		for i := range l {
			l[i] = 77
		}
	}
	scribble()
	send(t, s, 1, 6)
	scribble()
	waits(t, s, 1, 1, 2, 3, 4, 5, 6)
	is(t, "ack", s.Ack(1, 2), nil)
	keep := s.Waits(1)
	scribble()
	_ = append(s.Waits(1), 78, 79)
	send(t, s, 1, 7, 8)
	waits(t, s, 1, 3, 4, 5, 6, 7, 8)
	is(t, "ack", s.Ack(1, 8), nil)
	_ = append(s.Waits(1), 80)
	send(t, s, 1, 9)
	waits(t, s, 1, 9)
	if !slices.Equal(keep, []int{3, 4, 5, 6}) {
		t.Error("an answer was turned by what came behind it", keep)
	}
}

// R1: many windows and many serials are taken too.
func TestMany(t *testing.T) {
	s := shell.New()
	for id := range 3000 {
		walk(t, s, id, asked)
	}
	for n := range 200000 {
		send(t, s, 7, n)
	}
	for n := 0; n < 200000; n += 2 {
		is(t, "ack", s.Ack(7, n), nil)
	}
	waits(t, s, 7, 199999)
	waits(t, s, 8)
	commit(t, s, 7, true, true, 2, nil)
	commit(t, s, 8, true, true, 0, api.ErrState)
}
