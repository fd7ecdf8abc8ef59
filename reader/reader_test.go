package reader_test

import (
	"bytes"
	"errors"
	"slices"
	"strings"
	"testing"

	"tableau/api"
	"tableau/reader"
)

// known are all errors there are: an answer must be just one of them.
var known = []error{
	api.ErrArg, api.ErrShort, api.ErrBytes, api.ErrBig, api.ErrObject, api.ErrMethod, api.ErrFormat, api.ErrStride,
	api.ErrFile, api.ErrRole, api.ErrPlace, api.ErrState, api.ErrSerial, api.ErrFull, api.ErrGone, api.ErrSheet,
}

// just tells whether e is want, with its text, and none of the others.
func just(e, want error) bool {
	for _, k := range known {
		if errors.Is(e, k) != (k == want) {
			return false
		}
	}
	if want == nil {
		return e == nil
	}
	return e.Error() == want.Error()
}

// heading is a message's first eight bytes, spelt without the packages; the size may be a wrong one.
func heading(object, op, size int) string {
	return string([]byte{
		byte(object), byte(object >> 8), byte(object >> 16), byte(object >> 24),
		byte(op), byte(op >> 8), byte(size), byte(size >> 8),
	})
}

// whole is a message's bytes.
func whole(m api.Raw) string { return heading(m.Object, m.Op, 8+len(m.Body)) + m.Body }

// all are the messages' bytes, one behind the other.
func all(l []api.Raw) string {
	s := ""
	for _, m := range l {
		s += whole(m)
	}
	return s
}

// some are messages of many kinds: without a body, with the least and the greatest numbers, with bytes that look like a message, or like none.
var some = []api.Raw{
	{Object: 1, Op: 2, Body: "body"},
	{Object: 3, Op: 4},
	{},
	{Object: 1<<32 - 1, Op: 1<<16 - 1, Body: "\x00\x00\x00\x00\x00\x00\x00\x00"},
	{Object: 1 << 31, Op: 1 << 15, Body: "\x01\x00\x00\x00\x02\x00\x0c\x00body"},
	{Object: 0x01020304, Op: 0x0506, Body: "\xff\xfe\xfd\xfc"},
	{Object: 255, Body: strings.Repeat("\xff", 20)},
}

// wrong are the sizes that may not be, and what is wrong with each.
var wrong = map[int]error{
	0: api.ErrBytes, 1: api.ErrBytes, 4: api.ErrBytes, 7: api.ErrBytes, 9: api.ErrBytes, 10: api.ErrBytes, 11: api.ErrBytes,
	4094: api.ErrBytes, 4097: api.ErrBytes, 4098: api.ErrBytes, 65535: api.ErrBytes,
	4100: api.ErrBig, 4104: api.ErrBig, 8192: api.ErrBig, 65532: api.ErrBig,
}

// feed feeds s, and wants these messages, this error, and so many bytes left.
func feed(t *testing.T, r *reader.Reader, s string, want []api.Raw, wrong error, left int) {
	t.Helper()
	l, e := r.Feed([]byte(s))
	if !slices.Equal(l, want) {
		t.Errorf("%.60q: messages %v, not %v", s, l, want)
	}
	if !just(e, wrong) {
		t.Errorf("%.60q: error %v, not %v", s, e, wrong)
	}
	if n := r.Left(); n != left {
		t.Errorf("%.60q: left %d, not %d", s, n, left)
	}
}

// P5.1: the example, and nothing at all.
func TestNothingWhole(t *testing.T) {
	r := reader.New()
	if r.Left() != 0 {
		t.Error("a new reader has bytes left")
	}
	feed(t, r, "", nil, nil, 0)
	if l, e := r.Feed(nil); len(l) != 0 || e != nil || r.Left() != 0 {
		t.Error("nil:", l, e, r.Left())
	}
	feed(t, r, "\x00\x00\x00\x00\x00\x00\x00", nil, nil, 7)
	feed(t, r, "", nil, nil, 7)
}

// P5.1: all that are whole, in order; Object, Op and Body; what is left.
func TestWhole(t *testing.T) {
	for _, m := range some {
		feed(t, reader.New(), whole(m), []api.Raw{m}, nil, 0)
	}
	r := reader.New()
	for n := range 8 {
		feed(t, r, all(some), some, nil, 0)
		feed(t, r, whole(some[0])[:n], nil, nil, n)
		feed(t, r, whole(some[0])[n:]+whole(some[1]), some[:2], nil, 0)
	}
}

// P5.1: a message is taken just when its last byte is there, whatever its size.
func TestLastByte(t *testing.T) {
	for size := 8; size <= api.MaxMsg; size += 4 {
		m := api.Raw{Object: size, Op: 7, Body: strings.Repeat("x", size-8)}
		s := whole(m)
		r := reader.New()
		feed(t, r, s[:size-1], nil, nil, size-1)
		feed(t, r, s[size-1:]+"abc", []api.Raw{m}, nil, 3)
	}
}

// P5.1: one byte at a time, what is left grows by one till the message is whole.
func TestBytes(t *testing.T) {
	r := reader.New()
	for _, m := range some {
		s := whole(m)
		for i := range len(s) - 1 {
			feed(t, r, s[i:i+1], nil, nil, i+1)
		}
		feed(t, r, s[len(s)-1:], []api.Raw{m}, nil, 0)
	}
}

// P5.1: what is wrong is said of the eight bytes, with those ahead of it; then nothing is left, and it stays so.
func TestWrong(t *testing.T) {
	for size, want := range wrong {
		bad := heading(1, 2, size)
		for n := range len(some) + 1 {
			r := reader.New()
			feed(t, r, all(some[:n])+bad+all(some), some[:n], want, 0)
			for range 3 {
				feed(t, r, all(some), nil, want, 0)
				feed(t, r, "", nil, want, 0)
				feed(t, r, "abc", nil, want, 0)
			}
			if l, e := r.Feed(nil); len(l) != 0 || !just(e, want) || r.Left() != 0 {
				t.Error(size, "nil:", l, e, r.Left())
			}
		}
	}
}

// P5.1: with seven bytes nothing is wrong yet; with the eighth one it is, though no body is there.
func TestWrongAtEight(t *testing.T) {
	for size, want := range wrong {
		bad := heading(1, 2, size)
		r := reader.New()
		feed(t, r, whole(some[0])+bad[:7], some[:1], nil, 7)
		feed(t, r, "", nil, nil, 7)
		feed(t, r, bad[7:], nil, want, 0)
		feed(t, r, whole(some[0]), nil, want, 0)
	}
}

// P5.1: the error is what wire's Head says of the eight bytes: the first of two that are wrong is the one that is kept.
func TestFirstWrong(t *testing.T) {
	small, big := heading(1, 2, 0), heading(1, 2, 4100)
	r := reader.New()
	feed(t, r, small+big, nil, api.ErrBytes, 0)
	feed(t, r, big, nil, api.ErrBytes, 0)
	r = reader.New()
	feed(t, r, big+small, nil, api.ErrBig, 0)
	feed(t, r, small, nil, api.ErrBig, 0)
}

// gather feeds the pieces, and answers all messages, the last error, what is left at the end.
func gather(pieces ...string) ([]api.Raw, error, int) {
	r := reader.New()
	var l []api.Raw
	var wrong error
	for _, s := range pieces {
		m, e := r.Feed([]byte(s))
		l = append(l, m...)
		wrong = e
	}
	return l, wrong, r.Left()
}

// P5.2: cut at any two places, the messages are the same.
func TestTwoCuts(t *testing.T) {
	streams := map[string]error{
		all(some):                               nil,
		all(some) + "1234567":                   nil,
		all(some) + heading(1, 2, 4096) + "abc": nil,
		all(some) + heading(1, 2, 6) + "abc":    api.ErrBytes,
		all(some) + heading(1, 2, 5000):         api.ErrBig,
	}
	for s, wrong := range streams {
		left := len(s) - len(all(some))
		if wrong != nil {
			left = 0
		}
		for i := range len(s) + 1 {
			for k := i; k <= len(s); k++ {
				l, e, n := gather(s[:i], s[i:k], s[k:])
				if !slices.Equal(l, some) || !just(e, wrong) || n != left {
					t.Fatal(len(s), i, k, l, e, n)
				}
			}
		}
	}
}

// P5.2: cut into pieces of any one length, great messages too.
func TestEvenCuts(t *testing.T) {
	want := append(slices.Clone(some),
		api.Raw{Object: 9, Op: 9, Body: strings.Repeat("y", api.MaxMsg-8)},
		api.Raw{Object: 8, Op: 8, Body: strings.Repeat("\x00", api.MaxMsg-12)},
		api.Raw{Object: 7, Op: 7})
	s := all(want) + "tail"
	for n := 1; n <= len(s); n += 1 + n/9 {
		var pieces []string
		for p := range slices.Chunk([]byte(s), n) {
			pieces = append(pieces, string(p), "")
		}
		l, e, left := gather(pieces...)
		if !slices.Equal(l, want) || e != nil || left != 4 {
			t.Error(n, len(l), e, left)
		}
	}
}

// What is handed in is neither changed nor kept, its spare room too.
func TestHandedIn(t *testing.T) {
	s := all(some)
	for n := range len(s) + 1 {
		b := []byte(s + "spare room, spare room")
		r := reader.New()
		l, _ := r.Feed(b[:n])
		if string(b) != s+"spare room, spare room" {
			t.Fatal(n, "changed")
		}
		for i := range b {
			b[i] = 'X'
		}
		m, e := r.Feed([]byte(s[n:]))
		if !slices.Equal(append(l, m...), some) || e != nil {
			t.Fatal(n, "kept")
		}
		if !bytes.Equal(b, bytes.Repeat([]byte{'X'}, len(b))) {
			t.Fatal(n, "written to, later")
		}
	}
}

// What is answered is new memory, spare room too: it may be changed, and added to.
func TestAnswered(t *testing.T) {
	r := reader.New()
	a, _ := r.Feed([]byte(all(some) + "abc"))
	for i := range a[:cap(a)] {
		a[:cap(a)][i] = api.Raw{Object: -1}
	}
	b, _ := r.Feed([]byte(whole(api.Raw{Body: strings.Repeat("z", 4)})[3:]))
	if len(b) != 1 || b[0].Object != 'a'|'b'<<8|'c'<<16 || b[0].Body != "zzzz" {
		t.Error(b)
	}
	_ = append(a, api.Raw{Object: -2})
	if b[0].Body != "zzzz" || a[0].Object != -1 {
		t.Error("two answers share memory")
	}
}

// Two readers have nothing in common: what is left, and what was wrong.
func TestTwoReaders(t *testing.T) {
	a, b := reader.New(), reader.New()
	feed(t, a, "abc", nil, nil, 3)
	feed(t, b, whole(some[0])[:9], nil, nil, 9)
	feed(t, a, heading(0, 0, 0), nil, api.ErrBytes, 0)
	feed(t, b, whole(some[0])[9:], some[:1], nil, 0)
	feed(t, a, whole(some[0]), nil, api.ErrBytes, 0)
	feed(t, reader.New(), whole(some[0]), some[:1], nil, 0)
}

// A great many bytes, in one piece and one by one, are read in a time that grows with their number alone.
func TestMany(t *testing.T) {
	const n = 1 << 17
	s := strings.Repeat(whole(some[1]), n)
	feed := func(r *reader.Reader, b []byte, want int) {
		l, e := r.Feed(b)
		if len(l) != want || e != nil || len(l) > 0 && l[len(l)-1] != some[1] {
			t.Fatal(len(l), e)
		}
	}
	r := reader.New()
	feed(r, []byte(s), n)
	for i, c := range []byte(s) {
		feed(r, []byte{c}, (i%8+1)/8)
	}
	if r.Left() != 0 {
		t.Error(r.Left())
	}
}
