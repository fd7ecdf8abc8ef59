package memory_test

import (
	"bytes"
	"errors"
	"math"
	"slices"
	"strings"
	"testing"

	"tableau/api"
	"tableau/memory"
)

// known are all errors there are: an answer must be just one of them.
var known = []error{
	api.ErrArg, api.ErrShort, api.ErrBytes, api.ErrBig, api.ErrObject, api.ErrMethod, api.ErrFormat, api.ErrStride,
	api.ErrFile, api.ErrRole, api.ErrPlace, api.ErrState, api.ErrSerial, api.ErrFull, api.ErrGone, api.ErrSheet,
}

// just tells whether e is want, with its text, and none of the others.
func just(e, want error) bool {
	for _, k := range known {
		if errors.Is(e, k) != (k == want) {
			return false
		}
	}
	if want == nil {
		return e == nil
	}
	return e.Error() == want.Error()
}

// pool is the greatest size, spelt without the package.
const pool = 65536

// farKeys are keys that no memory may have, some of them one that may be, gone round.
var farKeys = []int{math.MinInt, -1<<32 + 1, -256, -255, -1, 0, 256, 257, 511, 512, 1<<32 + 1, math.MaxInt}

// farPlaces are places that are in no memory, nor just ahead of one or behind it.
var farPlaces = []int{math.MinInt, math.MinInt + 1, math.MinInt + 3, math.MinInt + 4, -1 << 32, -1 << 31, -pool, 2 * pool, 1 << 31, 1 << 32, math.MaxInt - 4, math.MaxInt - 3, math.MaxInt - 2, math.MaxInt - 1, math.MaxInt}

// word is the number at a place of a text, byte by byte; the place is a near one.
func word(s string, at int) uint32 {
	var w uint32
	for i := range len(s) {
		if d := i - at; d >= 0 && d < 4 {
			w += uint32(s[i]) << (8 * d)
		}
	}
	return w
}

// places are a memory's places of so many bytes, and those around them.
func places(size int) []int {
	var l []int
	for at := -6; at <= size+6; at++ {
		l = append(l, at)
	}
	return append(l, farPlaces...)
}

// has wants the memory key to be just these bytes, asked for at each place in all three ways.
func has(t *testing.T, m *memory.Memory, key int, s string) {
	t.Helper()
	if n := m.Size(key); n != len(s) {
		t.Fatalf("%d: size %d, not %d", key, n, len(s))
	}
	for _, at := range places(len(s)) {
		want := uint32(0)
		if at >= -6 && at <= len(s)+6 {
			want = word(s, at)
		}
		if w := m.Word(key, at); w != want {
			t.Fatalf("%d: word at %d: %x, not %x", key, at, w, want)
		}
		for _, n := range places(len(s)) {
			inside := at >= 0 && at <= len(s) && n >= 0 && n <= len(s)-at
			b, ok := m.Read(key, at, n)
			if ok != inside || !ok && b != nil || ok && string(b) != s[at:at+n] {
				t.Fatalf("%d: read at %d, %d: %q %v", key, at, n, b, ok)
			}
		}
	}
}

// none wants that there is no memory key.
func none(t *testing.T, m *memory.Memory, key int) {
	t.Helper()
	if n := m.Size(key); n != -1 {
		t.Fatalf("%d: size %d", key, n)
	}
	for _, at := range places(4) {
		if w := m.Word(key, at); w != 0 {
			t.Fatalf("%d: word at %d: %x", key, at, w)
		}
		for _, n := range []int{math.MinInt, -1, 0, 1, 4, math.MaxInt} {
			if b, ok := m.Read(key, at, n); b != nil || ok {
				t.Fatalf("%d: read at %d, %d: %q %v", key, at, n, b, ok)
			}
		}
		for _, b := range [][]byte{nil, {}, {1}} {
			if e := m.Write(key, at, b); !just(e, api.ErrFile) {
				t.Fatalf("%d: write at %d: %v", key, at, e)
			}
		}
	}
}

// with is a memory of the key 1 with these bytes.
func with(t *testing.T, s string) *memory.Memory {
	t.Helper()
	m := memory.New()
	if e := m.Set(1, len(s)); e != nil {
		t.Fatal(e)
	}
	if e := m.Write(1, 0, []byte(s)); e != nil {
		t.Fatal(e)
	}
	return m
}

// P10.1: the document's example.
func TestExample(t *testing.T) {
	m := memory.New()
	if e := m.Set(1, 4); e != nil {
		t.Fatal(e)
	}
	if e := m.Write(1, 2, []byte("ab")); e != nil {
		t.Fatal(e)
	}
	if w := m.Word(1, 0); w != 0x62610000 {
		t.Errorf("%x", w)
	}
	has(t, m, 1, "\x00\x00ab")
}

// P10.1: at first there is no memory, of whatever key.
func TestNew(t *testing.T) {
	m := memory.New()
	for key := range 258 {
		none(t, m, key-1)
	}
	for _, key := range farKeys {
		none(t, m, key)
	}
}

// P10.1: each key from 1 to 255 may be one; each has bytes of its own, 0 at first.
func TestKeys(t *testing.T) {
	m := memory.New()
	for key := 1; key <= 255; key++ {
		none(t, m, key)
		if e := m.Set(key, key%5); e != nil {
			t.Fatal(key, e)
		}
		has(t, m, key, strings.Repeat("\x00", key%5))
	}
	for key := 1; key <= 255; key++ {
		if e := m.Write(key, 0, bytes.Repeat([]byte{byte(key)}, key%5)); e != nil {
			t.Fatal(key, e)
		}
	}
	for key := 1; key <= 255; key++ {
		has(t, m, key, string(bytes.Repeat([]byte{byte(key)}, key%5)))
	}
	none(t, m, 0)
	none(t, m, 256)
}

// P10.1: keys and sizes that may not be; what is refused has changed nothing.
func TestSetWrong(t *testing.T) {
	m := with(t, "abcd")
	for _, key := range farKeys {
		for _, size := range []int{math.MinInt, -1, 0, 1, 4, pool, pool + 1, math.MaxInt} {
			if e := m.Set(key, size); !just(e, api.ErrArg) {
				t.Errorf("%d, %d: %v", key, size, e)
			}
		}
		none(t, m, key)
	}
	for _, size := range []int{math.MinInt, -1<<32 + 4, -pool, -4, -1, pool + 1, 1 << 17, 1 << 32, 1<<32 + 4, math.MaxInt} {
		for _, key := range []int{1, 2, 255} {
			if e := m.Set(key, size); !just(e, api.ErrArg) {
				t.Errorf("%d, %d: %v", key, size, e)
			}
		}
	}
	has(t, m, 1, "abcd")
	none(t, m, 2)
	none(t, m, 255)
}

// P10.1: a memory of no bytes is there.
func TestNoBytes(t *testing.T) {
	m := memory.New()
	if e := m.Set(255, 0); e != nil {
		t.Fatal(e)
	}
	has(t, m, 255, "")
	if b, ok := m.Read(255, 0, 0); len(b) != 0 || !ok {
		t.Error(b, ok)
	}
	for _, b := range [][]byte{nil, {}} {
		if e := m.Write(255, 0, b); e != nil {
			t.Error(e)
		}
		for _, at := range []int{-1, 1} {
			if e := m.Write(255, at, b); !just(e, api.ErrStride) {
				t.Error(at, e)
			}
		}
	}
	if e := m.Write(255, 0, []byte{1}); !just(e, api.ErrStride) {
		t.Error(e)
	}
	if e := m.Set(255, 2); e != nil {
		t.Fatal(e)
	}
	has(t, m, 255, "\x00\x00")
	m.Write(255, 0, []byte("ab"))
	if e := m.Set(255, 0); e != nil {
		t.Fatal(e)
	}
	has(t, m, 255, "")
	if e := m.Set(255, 2); e != nil {
		t.Fatal(e)
	}
	has(t, m, 255, "\x00\x00")
}

// P10.1: the greatest memory, from its first byte to its last.
func TestGreatest(t *testing.T) {
	if api.MaxPool != pool {
		t.Fatal(api.MaxPool)
	}
	m := memory.New()
	if e := m.Set(1, pool); e != nil || m.Size(1) != pool {
		t.Fatal(e, m.Size(1))
	}
	all := make([]byte, pool)
	if b, ok := m.Read(1, 0, pool); !ok || !bytes.Equal(b, all) {
		t.Error(len(b), ok)
	}
	for i := range all {
		all[i] = byte(i*7 + i>>8)
	}
	if e := m.Write(1, 0, all); e != nil {
		t.Error(e)
	}
	if b, ok := m.Read(1, 0, pool); !ok || !bytes.Equal(b, all) {
		t.Error(len(b), ok)
	}
	for at := -4; at <= pool+1; at++ {
		want := uint32(0)
		for i := range 4 {
			if at+i >= 0 && at+i < pool {
				want |= uint32(all[at+i]) << (8 * i)
			}
		}
		if w := m.Word(1, at); w != want {
			t.Fatalf("%d: %x, not %x", at, w, want)
		}
	}
	for _, x := range [][2]int{{0, pool + 1}, {1, pool}, {pool, 1}, {pool + 1, 0}} {
		if b, ok := m.Read(1, x[0], x[1]); b != nil || ok {
			t.Error(x, len(b), ok)
		}
		if e := m.Write(1, x[0], make([]byte, x[1])); !just(e, api.ErrStride) {
			t.Error(x, e)
		}
	}
	if b, ok := m.Read(1, 0, pool); !ok || !bytes.Equal(b, all) {
		t.Error(len(b), ok)
	}
}

// P10.1: a memory that is set again has the bytes it had, as far as it goes, and 0 behind them; what was cut off is gone.
func TestSetAgain(t *testing.T) {
	for size := range 9 {
		for next := range 12 {
			m := with(t, "abcdefgh"[:size])
			if e := m.Set(1, next); e != nil {
				t.Fatal(e)
			}
			has(t, m, 1, ("abcdefgh"[:size] + strings.Repeat("\x00", 12))[:next])
			if e := m.Set(1, 12); e != nil {
				t.Fatal(e)
			}
			has(t, m, 1, ("abcdefgh"[:min(size, next)] + strings.Repeat("\x00", 12))[:12])
		}
	}
	m := with(t, strings.Repeat("x", pool))
	for _, size := range []int{pool - 1, pool, 3, pool, 3} {
		if e := m.Set(1, size); e != nil {
			t.Fatal(e)
		}
	}
	has(t, m, 1, "xxx")
}

// P10.1: what is written stands there, what is around it stays; what goes beyond an end is refused, and has changed nothing.
func TestWrite(t *testing.T) {
	const s = "abcdef"
	for n := range 9 {
		b := bytes.Repeat([]byte{0xf1}, n)
		for _, at := range places(len(s)) {
			m := with(t, s)
			e := m.Write(1, at, b)
			if at < 0 || at > len(s) || n > len(s)-at {
				if !just(e, api.ErrStride) {
					t.Fatalf("%d at %d: %v", n, at, e)
				}
				has(t, m, 1, s)
				continue
			}
			if e != nil {
				t.Fatalf("%d at %d: %v", n, at, e)
			}
			has(t, m, 1, s[:at]+string(b)+s[at+n:])
		}
	}
}

// P10.1: a word's lowest byte is the first; one that is not there counts as 0, ahead of the memory too.
func TestWord(t *testing.T) {
	m := with(t, "\x01\x82\xff\x84\x05")
	for at, want := range map[int]uint32{
		-5: 0, -4: 0, -3: 0x01000000, -2: 0x82010000, -1: 0xff820100,
		0: 0x84ff8201, 1: 0x0584ff82, 2: 0x0584ff, 3: 0x0584, 4: 0x05, 5: 0, 6: 0,
	} {
		if w := m.Word(1, at); w != want {
			t.Errorf("%d: %x, not %x", at, w, want)
		}
	}
	for _, at := range farPlaces {
		if w := m.Word(1, at); w != 0 {
			t.Errorf("%d: %x", at, w)
		}
	}
	one := with(t, "\x09")
	for at, want := range map[int]uint32{-4: 0, -3: 9 << 24, -2: 9 << 16, -1: 9 << 8, 0: 9, 1: 0} {
		if w := one.Word(1, at); w != want {
			t.Errorf("%d: %x, not %x", at, w, want)
		}
	}
}

// dice are numbers that look like any, the same ones at each run.
type dice uint32

// roll is from 0 to just ahead of n.
func (d *dice) roll(n int) int {
	*d = *d*1664525 + 1013904223
	return int(*d>>8) % n
}

// text is n bytes, none of them 0.
func (d *dice) text(n int) string {
	b := make([]byte, n)
	for i := range b {
		b[i] = byte(1 + d.roll(255))
	}
	return string(b)
}

// set sets a memory, in the test's book too, and wants the right answer.
func set(t *testing.T, m *memory.Memory, book map[int]string, key, size int) {
	t.Helper()
	var wrong error
	if key < 1 || key > 255 || size < 0 || size > pool {
		wrong = api.ErrArg
	} else {
		book[key] = (book[key] + strings.Repeat("\x00", max(0, size-len(book[key]))))[:size]
	}
	if e := m.Set(key, size); !just(e, wrong) {
		t.Fatalf("set %d, %d: %v, not %v", key, size, e, wrong)
	}
}

// write writes into a memory, in the test's book too, and wants the right answer.
func write(t *testing.T, m *memory.Memory, book map[int]string, key, at int, s string) {
	t.Helper()
	var wrong error
	was, ok := book[key]
	switch {
	case !ok:
		wrong = api.ErrFile
	case at < 0 || at+len(s) > len(was):
		wrong = api.ErrStride
	default:
		book[key] = was[:at] + s + was[at+len(s):]
	}
	if e := m.Write(key, at, []byte(s)); !just(e, wrong) {
		t.Fatalf("write %d, %d, %q: %v, not %v", key, at, s, e, wrong)
	}
}

// P10.2: after any calls what was written is read, until it is written again, or cut off.
func TestWhatIsWritten(t *testing.T) {
	m, book, d := memory.New(), map[int]string{}, dice(1)
	keys := []int{-1, 0, 1, 2, 3, 254, 255, 256}
	for range 4000 {
		key := keys[d.roll(len(keys))]
		if d.roll(4) == 0 {
			set(t, m, book, key, d.roll(14)-1)
		} else {
			write(t, m, book, key, d.roll(14)-1, d.text(d.roll(6)))
		}
		key = keys[d.roll(len(keys))]
		if s, ok := book[key]; ok {
			has(t, m, key, s)
		} else {
			none(t, m, key)
		}
	}
	if len(book) != 5 {
		t.Error(len(book))
	}
}

// What is handed in is neither changed nor kept, its spare room neither.
func TestHandedIn(t *testing.T) {
	m := with(t, "......")
	whole := []byte("abcdefgh")
	b := whole[2:4:6]
	if e := m.Write(1, 1, b); e != nil {
		t.Fatal(e)
	}
	if string(whole) != "abcdefgh" {
		t.Errorf("changed: %q", whole)
	}
	for i := range whole {
		whole[i] = 'X'
	}
	has(t, m, 1, ".cd...")
	if e := m.Write(1, 1, []byte("12345")); e != nil {
		t.Fatal(e)
	}
	if e := m.Set(1, 3); e != nil {
		t.Fatal(e)
	}
	if string(whole) != "XXXXXXXX" {
		t.Errorf("kept: %q", whole)
	}
}

// What is handed in is not kept either where it is all that a memory has.
func TestHandedInWhole(t *testing.T) {
	m := with(t, "......")
	b := []byte("abcdef")
	if e := m.Write(1, 0, b); e != nil {
		t.Fatal(e)
	}
	b[2] = 'X'
	has(t, m, 1, "abcdef")
	if e := m.Write(1, 3, []byte("Y")); e != nil {
		t.Fatal(e)
	}
	if string(b) != "abXdef" {
		t.Errorf("kept: %q", b)
	}
}

// What is answered is new memory, spare room too, and stays as it was read.
func TestAnswered(t *testing.T) {
	m := with(t, "abcdef")
	a, _ := m.Read(1, 1, 3)
	b, _ := m.Read(1, 1, 3)
	for i := range a[:cap(a)] {
		a[:cap(a)][i] = 'X'
	}
	_ = append(a, "YYYY"...)
	if string(b) != "bcd" {
		t.Errorf("two answers share memory: %q", b)
	}
	has(t, m, 1, "abcdef")
	kept := slices.Clone(b)
	m.Write(1, 0, []byte("123456"))
	m.Set(1, 2)
	if !bytes.Equal(b, kept) {
		t.Errorf("an answer is turned by later calls: %q", b)
	}
	none, _ := m.Read(1, 0, 0)
	_ = append(none, "ZZ"...)
	has(t, m, 1, "12")
}

// Two memories have nothing in common.
func TestTwo(t *testing.T) {
	a, b := with(t, "abc"), with(t, "123")
	b.Set(2, 1)
	none(t, a, 2)
	b.Write(1, 0, []byte("x"))
	a.Set(1, 2)
	has(t, a, 1, "ab")
	has(t, b, 1, "x23")
	none(t, memory.New(), 1)
}
