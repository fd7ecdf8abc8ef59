package queue_test

import (
	"bytes"
	"errors"
	"math"
	"math/rand"
	"strings"
	"testing"

	"tableau/api"
	"tableau/queue"
)

// known are all errors there are: an answer must be just one of them.
var known = []error{
	api.ErrArg, api.ErrShort, api.ErrBytes, api.ErrBig, api.ErrObject, api.ErrMethod, api.ErrFormat, api.ErrStride,
	api.ErrFile, api.ErrRole, api.ErrPlace, api.ErrState, api.ErrSerial, api.ErrFull, api.ErrGone, api.ErrSheet,
}

// just tells whether e is want, with its text, and none of the others.
func just(e, want error) bool {
	for _, k := range known {
		if errors.Is(e, k) != (k == want) {
			return false
		}
	}
	if want == nil {
		return e == nil
	}
	return e.Error() == want.Error()
}

// far are numbers at the ends of what a number may be, and about 0.
func far() []int {
	l := []int{-1 << 32, 1 << 32, math.MinInt32, math.MaxInt32}
	for n := range 7 {
		l = append(l, n, -n, math.MinInt+n, math.MaxInt-n)
	}
	return l
}

// room is how many bytes there is room for, as the document says.
func room(most int) int {
	if most < 0 {
		return 0
	}
	if most > 1<<14 {
		return 1 << 14
	}
	return most
}

// put puts s, and wants this error.
func put(t *testing.T, q *queue.Queue, s string, want error) {
	t.Helper()
	if e := q.Put([]byte(s)); !just(e, want) {
		t.Fatalf("put %.40q: %v, not %v", s, e, want)
	}
}

// take takes n bytes, and wants these.
func take(t *testing.T, q *queue.Queue, n int, want string) {
	t.Helper()
	if b := q.Take(n); string(b) != want {
		t.Fatalf("take %d: %.40q, not %.40q", n, b, want)
	}
}

// has wants so many bytes there, and it to be closed, or not.
func has(t *testing.T, q *queue.Queue, n int, closed bool) {
	t.Helper()
	if q.Len() != n || q.Closed() != closed {
		t.Fatalf("%d bytes, closed: %v; not %d, %v", q.Len(), q.Closed(), n, closed)
	}
}

// with is a queue that has s, and room for so many bytes.
func with(t *testing.T, most int, s string) *queue.Queue {
	t.Helper()
	q := queue.New(most)
	put(t, q, s, nil)
	return q
}

// P25.1: the example: more than there is room for in one Put.
func TestTooMuchAtOnce(t *testing.T) {
	q := queue.New(4)
	put(t, q, "abcde", api.ErrFull)
	has(t, q, 0, true)
	take(t, q, 9, "")
}

// P25.1: a new queue has nothing, and is open.
func TestNew(t *testing.T) {
	for _, most := range append(far(), api.MaxOut-1, api.MaxOut, api.MaxOut+1) {
		q := queue.New(most)
		has(t, q, 0, false)
		take(t, q, 9, "")
		put(t, q, "", nil)
		has(t, q, 0, false)
	}
}

// P25.1: just so many bytes have room, of any number: one more has none.
func TestRoom(t *testing.T) {
	for _, most := range append(far(), 100, api.MaxOut-1, api.MaxOut, api.MaxOut+1, 2*api.MaxOut) {
		n := room(most)
		all := strings.Repeat("x", n)
		q := with(t, most, all)
		has(t, q, n, false)
		put(t, q, "", nil)
		has(t, q, n, false)
		put(t, q, "y", api.ErrFull)
		has(t, q, n, true)
		take(t, q, n, all)

		q = queue.New(most)
		put(t, q, all+"y", api.ErrFull)
		has(t, q, 0, true)
	}
}

// P25.1: what is put byte by byte has the same room as what is put at once.
func TestRoomByBytes(t *testing.T) {
	for most := range 40 {
		q := queue.New(most)
		for n := range most {
			has(t, q, n, false)
			put(t, q, "x", nil)
		}
		has(t, q, most, false)
		put(t, q, "x", api.ErrFull)
		has(t, q, most, true)
	}
}

// P25.1: at ErrFull nothing is put, not even what there would be room for, and what was there stays.
func TestFull(t *testing.T) {
	for n := range 6 {
		was := "abcde"[:n]
		for _, more := range []string{"123456"[:6-n], "1234567", strings.Repeat("z", 1<<20)} {
			q := with(t, 5, was)
			put(t, q, more, api.ErrFull)
			has(t, q, n, true)
			take(t, q, n+9, was)
			has(t, q, 0, true)
		}
	}
}

// P25.1: what is taken makes room again, in an open one.
func TestRoomAgain(t *testing.T) {
	q := with(t, 4, "abcd")
	take(t, q, 1, "a")
	put(t, q, "e", nil)
	has(t, q, 4, false)
	take(t, q, 3, "bcd")
	put(t, q, "fgh", nil)
	put(t, q, "i", api.ErrFull)
	take(t, q, 4, "efgh")
	put(t, q, "j", api.ErrGone)
	has(t, q, 0, true)
}

// P25.1: closed is named ahead of full, and of nothing to put.
func TestGone(t *testing.T) {
	shut := with(t, 4, "ab")
	shut.Close()
	full := with(t, 4, "ab")
	put(t, full, "cde", api.ErrFull)
	for _, q := range []*queue.Queue{shut, full} {
		for _, s := range []string{"", "c", "cd", "cde", strings.Repeat("z", 1<<15)} {
			put(t, q, s, api.ErrGone)
			has(t, q, 2, true)
		}
		if e := q.Put(nil); !just(e, api.ErrGone) {
			t.Error("nil:", e)
		}
		take(t, q, 1, "a")
		put(t, q, "c", api.ErrGone)
		take(t, q, 1, "b")
		put(t, q, "c", api.ErrGone)
		has(t, q, 0, true)
	}
}

// P25.1: nil and an empty list are one: nothing is put, wherever there is room or none.
func TestPutNothing(t *testing.T) {
	for _, b := range [][]byte{nil, {}} {
		for _, s := range []string{"", "abc", "abcd"} {
			q := with(t, 4, s)
			if e := q.Put(b); e != nil {
				t.Error(e)
			}
			has(t, q, len(s), false)
			take(t, q, 9, s)
		}
	}
}

// P25.1: the first n bytes, or all there are, or none; then they are not there any more.
func TestTake(t *testing.T) {
	const s = "abcde"
	for _, n := range append(far(), 4, 5, 6, 7) {
		for _, closed := range []bool{false, true} {
			q := with(t, 9, s)
			if closed {
				q.Close()
			}
			k := max(0, min(n, len(s)))
			take(t, q, n, s[:k])
			has(t, q, len(s)-k, closed)
			take(t, q, math.MaxInt, s[k:])
			has(t, q, 0, closed)
			take(t, q, n, "")
			has(t, q, 0, closed)
		}
	}
}

// P25.1: Close closes, once and for all; what is there stays; Take, Len and Closed close and open nothing.
func TestClose(t *testing.T) {
	q := with(t, 9, "abc")
	has(t, q, 3, false)
	q.Close()
	has(t, q, 3, true)
	q.Close()
	has(t, q, 3, true)
	take(t, q, 2, "ab")
	has(t, q, 1, true)
	q.Close()
	take(t, q, 2, "c")
	has(t, q, 0, true)
	put(t, q, "d", api.ErrGone)

	empty := queue.New(9)
	empty.Close()
	has(t, empty, 0, true)
	put(t, empty, "d", api.ErrGone)
	take(t, empty, 1, "")

	none := queue.New(0)
	put(t, none, "", nil)
	none.Close()
	put(t, none, "", api.ErrGone)
}

// P25.2: of bytes put in any pieces, what is taken in any pieces is what was put, in order.
func TestOrder(t *testing.T) {
	var all []byte
	for n := range 600 {
		all = append(all, byte(n), byte(n>>8), byte(n*n))
	}
	for in := 1; in < 50; in++ {
		for out := 1; out < 50; out += 1 + out/7 {
			q := queue.New(in + out)
			var got []byte
			for b := range pieces(all, in) {
				for q.Len()+len(b) > in+out {
					got = append(got, q.Take(out)...)
				}
				put(t, q, string(b), nil)
			}
			for q.Len() > 0 {
				got = append(got, q.Take(out)...)
			}
			if !bytes.Equal(got, all) {
				t.Fatal(in, out)
			}
		}
	}
}

// pieces are b's, of n bytes each.
func pieces(b []byte, n int) func(func([]byte) bool) {
	return func(yield func([]byte) bool) {
		for len(b) > n {
			if !yield(b[:n]) {
				return
			}
			b = b[n:]
		}
		yield(b)
	}
}

// model is what the document says of a queue, a text at a time.
type model struct {
	room   int
	text   string
	closed bool
}

// put is what Put says.
func (m *model) put(s string) error {
	if m.closed {
		return api.ErrGone
	}
	if len(m.text+s) > m.room {
		m.closed = true
		return api.ErrFull
	}
	m.text += s
	return nil
}

// take is what Take says.
func (m *model) take(n int) string {
	if n < 1 {
		return ""
	}
	if n > len(m.text) {
		n = len(m.text)
	}
	s := m.text[:n]
	m.text = m.text[n:]
	return s
}

// chars are n bytes of any kind.
func chars(r *rand.Rand, n int) string {
	b := make([]byte, n)
	r.Read(b)
	return string(b)
}

// P25.1, P25.2: whatever is asked, in whatever order, the answers are the model's.
func TestModel(t *testing.T) {
	r := rand.New(rand.NewSource(25))
	for range 4000 {
		most := r.Intn(60) - 3
		if r.Intn(50) == 0 {
			most = api.MaxOut + r.Intn(9) - 4
		}
		q, m := queue.New(most), &model{room: room(most)}
		for range r.Intn(60) {
			step(t, r, q, m)
			has(t, q, len(m.text), m.closed)
		}
		take(t, q, 1<<20, m.take(1<<20))
		has(t, q, 0, m.closed)
	}
}

// step asks both one thing.
func step(t *testing.T, r *rand.Rand, q *queue.Queue, m *model) {
	t.Helper()
	switch k := r.Intn(50); {
	case k == 0:
		q.Close()
		m.closed = true
	case k == 1:
		n := far()[r.Intn(len(far()))]
		take(t, q, n, m.take(n))
	case k < 25:
		s := chars(r, r.Intn(1+max(1, m.room/3)))
		put(t, q, s, m.put(s))
	default:
		n := r.Intn(max(2, m.room/2)) - 1
		take(t, q, n, m.take(n))
	}
}

// R3: what is handed in is neither changed nor kept, the memory behind its end too, whether it is put or refused.
func TestHandedIn(t *testing.T) {
	for _, closed := range []bool{false, true} {
		for n := range 9 {
			b := []byte("abcdefgh, behind")
			q := with(t, 6, "0")
			if closed {
				q.Close()
			}
			e := q.Put(b[:n])
			if string(b) != "abcdefgh, behind" {
				t.Fatal(n, "changed")
			}
			for i := range b {
				b[i] = 'X'
			}
			want := "0"
			if e == nil {
				put(t, q, "", nil)
				want += "abcdefgh"[:n]
			}
			q.Put([]byte("!"))
			if string(b) != "XXXXXXXXXXXXXXXX" {
				t.Fatal(n, "written to, later")
			}
			take(t, q, len(want), want)
		}
	}
}

// R3: what is put first is a list of its own too: its spare room is not what the next bytes are put in.
func TestSpareHandedIn(t *testing.T) {
	b := append(make([]byte, 0, 64), "abc"...)
	q := queue.New(9)
	if e := q.Put(b); e != nil {
		t.Fatal(e)
	}
	put(t, q, "def", nil)
	if string(b[:cap(b)]) != "abc"+strings.Repeat("\x00", 61) {
		t.Errorf("%q", b[:cap(b)])
	}
	take(t, q, 9, "abcdef")
}

// R3: what is answered is new memory, spare room too: it may be changed and added to, and stays as it is.
func TestAnswered(t *testing.T) {
	const s = "abcdefghijklmnopqrstuvwxyz"
	for n := range len(s) + 1 {
		q := with(t, 40, s)
		a := q.Take(n)
		for i := range a[:cap(a)] {
			a[:cap(a)][i] = 'X'
		}
		_ = append(a, "YYYY"...)
		put(t, q, "0123", nil)
		b := q.Take(n)
		if want := (s + "0123")[n:min(2*n, len(s)+4)]; string(b) != want {
			t.Fatalf("%d: %q, not %q", n, b, want)
		}
		for i := range b[:cap(b)] {
			b[:cap(b)][i] = 'Z'
		}
		if string(a) != strings.Repeat("X", n) {
			t.Fatalf("%d: two answers share memory: %q", n, a)
		}
		put(t, q, "45", nil)
		take(t, q, 99, (s + "012345")[min(2*n, len(s)+4):])
	}
}

// R3: what is taken last, when nothing waits any more, is its own memory too, and so is none at all.
func TestAnsweredLast(t *testing.T) {
	q := with(t, 9, "abc")
	a := q.Take(9)
	none := q.Take(9)
	for i := range none[:cap(none)] {
		none[:cap(none)][i] = 'N'
	}
	put(t, q, "defg", nil)
	for i := range a[:cap(a)] {
		a[:cap(a)][i] = 'X'
	}
	none = q.Take(0)
	for i := range none[:cap(none)] {
		none[:cap(none)][i] = 'N'
	}
	take(t, q, 9, "defg")
	if string(a) != "XXX" {
		t.Errorf("%q", a)
	}
}

// R4: two queues have nothing in common.
func TestTwoQueues(t *testing.T) {
	a, b := queue.New(4), queue.New(9)
	put(t, a, "abc", nil)
	put(t, b, "123", nil)
	put(t, a, "de", api.ErrFull)
	has(t, b, 3, false)
	put(t, b, "456", nil)
	take(t, a, 2, "ab")
	take(t, b, 9, "123456")
	has(t, a, 1, true)
	b.Close()
	has(t, queue.New(9), 0, false)
}

// P25.2: a great many bytes, one by one, through a queue that is nearly full, in a time that grows with their number alone.
func TestMany(t *testing.T) {
	q := queue.New(api.MaxOut)
	put(t, q, strings.Repeat("x", api.MaxOut-1), nil)
	const n = 1 << 20
	for i := range n {
		if e := q.Put([]byte{byte(i)}); e != nil {
			t.Fatal(i, e)
		}
		want := byte('x')
		if k := i - (api.MaxOut - 1); k >= 0 {
			want = byte(k)
		}
		if b := q.Take(1); len(b) != 1 || b[0] != want {
			t.Fatal(i, b)
		}
	}
	has(t, q, api.MaxOut-1, false)
}
