package word_test

import (
	"bytes"
	"errors"
	"math"
	"strings"
	"testing"

	"tableau/api"
	"tableau/word"
)

// known are all errors there are: an answer must be just one of them.
var known = []error{
	api.ErrArg, api.ErrShort, api.ErrBytes, api.ErrBig, api.ErrObject, api.ErrMethod, api.ErrFormat, api.ErrStride,
	api.ErrFile, api.ErrRole, api.ErrPlace, api.ErrState, api.ErrSerial, api.ErrFull, api.ErrGone, api.ErrSheet,
}

// just tells whether e is want, and none of the others.
func just(e, want error) bool {
	for _, k := range known {
		if errors.Is(e, k) != (k == want) {
			return false
		}
	}
	return want != nil || e == nil
}

// number is v's four bytes, spelt without the package.
func number(v uint32) string {
	return string([]byte{byte(v % 256), byte(v / 256 % 256), byte(v / 65536 % 256), byte(v / 16777216)})
}

// text is what PutText puts, spelt without the package.
func text(s string) string { return withFilling(s+"\x00", len(s)+1) }

// list is what PutList puts, spelt without the package.
func list(s string) string { return withFilling(s, len(s)) }

func withFilling(s string, n int) string {
	for len(s)%4 != 0 {
		s += "\x00"
	}
	return number(uint32(n)) + s
}

// The edges of a number's bytes, and one with four different ones.
var numbers = []uint32{0, 1, 255, 256, 65535, 65536, 1<<24 - 1, 1 << 24, 0x7fffffff, 0x80000000, 0x04030201, 0xfffefdfc, math.MaxUint32}

func TestPutPutsTheLowestByteFirst(t *testing.T) {
	if b := word.Put(nil, 0x04030201); string(b) != "\x01\x02\x03\x04" {
		t.Errorf("% x", b)
	}
	for _, v := range numbers {
		for _, ahead := range []string{"", "q", "abcd", "abcde"} {
			if b := word.Put([]byte(ahead), v); string(b) != ahead+number(v) {
				t.Errorf("%q, %#x: % x", ahead, v, b)
			}
		}
	}
}

func TestGetIsWhatWasPut(t *testing.T) {
	for _, v := range numbers {
		for at := range 6 {
			for behind := range 3 {
				b := word.Put(bytes.Repeat([]byte{0xee}, at), v)
				b = append(b, bytes.Repeat([]byte{0xee}, behind)...)
				if got, e := word.Get(b, at); got != v || e != nil {
					t.Errorf("%#x at %d: %#x, %v", v, at, got, e)
				}
			}
		}
	}
}

// wrongPlaces are places in a list of n bytes, with the error that is due.
func wrongPlaces(n int) map[int]error {
	m := map[int]error{
		-1: api.ErrArg, -4: api.ErrArg, math.MinInt: api.ErrArg,
		n + 1: api.ErrArg, n + 4: api.ErrArg, math.MaxInt: api.ErrArg, math.MaxInt - 3: api.ErrArg,
	}
	for at := max(0, n-3); at <= n; at++ {
		m[at] = api.ErrShort
	}
	return m
}

func TestGetsRefuseWrongPlaces(t *testing.T) {
	for n := range 12 {
		b := make([]byte, n)
		for at, want := range wrongPlaces(n) {
			if v, e := word.Get(b, at); v != 0 || !just(e, want) {
				t.Errorf("Get of %d bytes at %d: %d, %v", n, at, v, e)
			}
			if s, next, e := word.GetText(b, at); s != "" || next != 0 || !just(e, want) {
				t.Errorf("GetText of %d bytes at %d: %q, %d, %v", n, at, s, next, e)
			}
			if s, next, e := word.GetList(b, at); s != "" || next != 0 || !just(e, want) {
				t.Errorf("GetList of %d bytes at %d: %q, %d, %v", n, at, s, next, e)
			}
		}
	}
}

func TestGetCountsWhatIsThereNotTheRoom(t *testing.T) {
	b := make([]byte, 3, 16)
	if v, e := word.Get(b, 0); v != 0 || !just(e, api.ErrShort) {
		t.Error(v, e)
	}
	b = append(make([]byte, 0, 64), "\x05\x00\x00\x00abcd"...)
	if s, next, e := word.GetText(b, 0); s != "" || next != 0 || !just(e, api.ErrShort) {
		t.Error(s, next, e)
	}
	if s, next, e := word.GetList(b, 0); s != "" || next != 0 || !just(e, api.ErrShort) {
		t.Error(s, next, e)
	}
}

func TestTextsAsBytes(t *testing.T) {
	for s, want := range map[string]string{
		"":       "\x01\x00\x00\x00\x00\x00\x00\x00",
		"a":      "\x02\x00\x00\x00a\x00\x00\x00",
		"ab":     "\x03\x00\x00\x00ab\x00\x00",
		"abc":    "\x04\x00\x00\x00abc\x00",
		"abcd":   "\x05\x00\x00\x00abcd\x00\x00\x00\x00",
		"a\x00b": "\x04\x00\x00\x00a\x00b\x00",
		"ä":      "\x03\x00\x00\x00\xc3\xa4\x00\x00",
		"\xff":   "\x02\x00\x00\x00\xff\x00\x00\x00",
	} {
		if b := word.PutText(nil, s); string(b) != want {
			t.Errorf("%q: % x", s, b)
		}
	}
}

func TestListsAsBytes(t *testing.T) {
	for s, want := range map[string]string{
		"":         "\x00\x00\x00\x00",
		"a":        "\x01\x00\x00\x00a\x00\x00\x00",
		"ab":       "\x02\x00\x00\x00ab\x00\x00",
		"abc":      "\x03\x00\x00\x00abc\x00",
		"abcd":     "\x04\x00\x00\x00abcd",
		"abcde":    "\x05\x00\x00\x00abcde\x00\x00\x00",
		"\x00":     "\x01\x00\x00\x00\x00\x00\x00\x00",
		"a\x00b":   "\x03\x00\x00\x00a\x00b\x00",
		"\xff\xfe": "\x02\x00\x00\x00\xff\xfe\x00\x00",
	} {
		if b := word.PutList(nil, s); string(b) != want {
			t.Errorf("%q: % x", s, b)
		}
	}
}

// The filling is counted from the beginning of the text, not from that of the list it stands in.
func TestWhatIsPutIsGotAtAnyPlace(t *testing.T) {
	for at := range 9 {
		ahead := strings.Repeat("q", at)
		for n := range 14 {
			s := strings.Repeat("x", n)
			for _, behind := range []string{"", "\x01", "\x00\x00\x00\x00", "zzzzzzzz"} {
				b := word.PutText([]byte(ahead), s)
				if string(b) != ahead+text(s) {
					t.Errorf("PutText %d behind %d: % x", n, at, b)
				}
				if got, next, e := word.GetText(append(b, behind...), at); got != s || next != len(b) || e != nil {
					t.Errorf("GetText %d at %d: %q, %d, %v", n, at, got, next, e)
				}
				b = word.PutList([]byte(ahead), s)
				if string(b) != ahead+list(s) {
					t.Errorf("PutList %d behind %d: % x", n, at, b)
				}
				if got, next, e := word.GetList(append(b, behind...), at); got != s || next != len(b) || e != nil {
					t.Errorf("GetList %d at %d: %q, %d, %v", n, at, got, next, e)
				}
			}
		}
	}
}

func TestOneBehindTheOther(t *testing.T) {
	b := word.Put(word.PutList(word.PutText(word.Put(nil, 7), "hello"), "\x00\x01"), 9)
	first, e := word.Get(b, 0)
	if first != 7 || e != nil {
		t.Error(first, e)
	}
	s, at, e := word.GetText(b, 4)
	if s != "hello" || at != 16 || e != nil {
		t.Error(s, at, e)
	}
	l, at, e := word.GetList(b, at)
	if l != "\x00\x01" || at != 24 || e != nil {
		t.Errorf("%q %d %v", l, at, e)
	}
	last, e := word.Get(b, at)
	if last != 9 || at+4 != len(b) || e != nil {
		t.Error(last, at, e)
	}
}

func TestWrongTexts(t *testing.T) {
	for b, want := range map[string]error{
		number(0):                                              api.ErrBytes,
		number(0) + "abcd":                                     api.ErrBytes,
		number(1):                                              api.ErrShort,
		number(1) + "\x00\x00\x00":                             api.ErrShort,
		number(1) + "a\x00\x00\x00":                            api.ErrBytes,
		number(2) + "ab\x00\x00":                               api.ErrBytes,
		number(2) + "\x00\x00\x00\x00":                         api.ErrBytes,
		number(2) + "a\x00\x01\x00":                            api.ErrBytes,
		number(2) + "a\x00\x00\x01":                            api.ErrBytes,
		number(3) + "a\x00\x00\x00":                            api.ErrBytes,
		number(4) + "a\x00c\x00":                               api.ErrBytes,
		number(4) + "abcd":                                     api.ErrBytes,
		number(4) + "abc":                                      api.ErrShort,
		number(5) + "abcd\x00\x00\x00":                         api.ErrShort,
		number(5) + "a\x00cd":                                  api.ErrShort,
		number(api.MaxMsg):                                     api.ErrShort,
		number(api.MaxMsg + 1):                                 api.ErrBig,
		number(1 << 31):                                        api.ErrBig,
		number(math.MaxUint32 - 2):                             api.ErrBig,
		number(math.MaxUint32):                                 api.ErrBig,
		number(api.MaxMsg) + strings.Repeat("x", api.MaxMsg):   api.ErrBytes,
		number(api.MaxMsg) + strings.Repeat("x", api.MaxMsg-1): api.ErrShort,
		number(api.MaxMsg+1) + strings.Repeat("\x00", 2*api.MaxMsg): api.ErrBig,
	} {
		if s, next, e := word.GetText([]byte(b), 0); s != "" || next != 0 || !just(e, want) {
			t.Errorf("%.20q: %q, %d, %v; want %v", b, s, next, e, want)
		}
	}
}

func TestWrongLists(t *testing.T) {
	for b, want := range map[string]error{
		number(1):                   api.ErrShort,
		number(1) + "a\x00\x00":     api.ErrShort,
		number(1) + "a\x01\x00\x00": api.ErrBytes,
		number(1) + "a\x00\x01\x00": api.ErrBytes,
		number(1) + "a\x00\x00\x01": api.ErrBytes,
		number(3) + "abcd":          api.ErrBytes,
		number(4) + "abc":           api.ErrShort,
		number(5) + "abcde\x00\x00": api.ErrShort,
		number(5) + "abcde\x01\x00": api.ErrShort,
		number(api.MaxMsg):          api.ErrShort,
		number(api.MaxMsg + 1):      api.ErrBig,
		number(1 << 31):             api.ErrBig,
		number(math.MaxUint32 - 2):  api.ErrBig,
		number(math.MaxUint32):      api.ErrBig,
		number(api.MaxMsg-1) + strings.Repeat("x", api.MaxMsg):      api.ErrBytes,
		number(api.MaxMsg+1) + strings.Repeat("\x00", 2*api.MaxMsg): api.ErrBig,
	} {
		if s, next, e := word.GetList([]byte(b), 0); s != "" || next != 0 || !just(e, want) {
			t.Errorf("%.20q: %q, %d, %v; want %v", b, s, next, e, want)
		}
	}
}

func TestTheGreatestTextsAndLists(t *testing.T) {
	for n := api.MaxMsg - 5; n <= api.MaxMsg+5; n++ {
		s := strings.Repeat("x", n)
		b := word.PutText(nil, s)
		if string(b) != text(s) {
			t.Errorf("PutText of %d bytes", n)
		}
		got, next, e := word.GetText(b, 0)
		if n < api.MaxMsg && (got != s || next != len(b) || e != nil) {
			t.Errorf("GetText of %d bytes: %d, %d, %v", n, len(got), next, e)
		}
		if n >= api.MaxMsg && (got != "" || next != 0 || !just(e, api.ErrBig)) {
			t.Errorf("GetText of %d bytes: %d, %d, %v", n, len(got), next, e)
		}
		b = word.PutList(nil, s)
		if string(b) != list(s) {
			t.Errorf("PutList of %d bytes", n)
		}
		got, next, e = word.GetList(b, 0)
		if n <= api.MaxMsg && (got != s || next != len(b) || e != nil) {
			t.Errorf("GetList of %d bytes: %d, %d, %v", n, len(got), next, e)
		}
		if n > api.MaxMsg && (got != "" || next != 0 || !just(e, api.ErrBig)) {
			t.Errorf("GetList of %d bytes: %d, %d, %v", n, len(got), next, e)
		}
	}
}

func TestListsMayHoldAnyBytes(t *testing.T) {
	all := make([]byte, 256)
	for i := range all {
		all[i] = byte(i)
	}
	b := word.PutList(nil, string(all))
	if s, next, e := word.GetList(b, 0); s != string(all) || next != len(b) || e != nil {
		t.Error(next, e)
	}
	b = word.PutText(nil, string(all[1:]))
	if s, next, e := word.GetText(b, 0); s != string(all[1:]) || next != len(b) || e != nil {
		t.Error(next, e)
	}
}

// each calls f with every string of n bytes that are 0, 1 or 'a'.
func each(n int, f func(string)) {
	if n == 0 {
		f("")
		return
	}
	each(n-1, func(s string) {
		f(s + "\x00")
		f(s + "\x01")
		f(s + "a")
	})
}

// Of all short bodies: what is got is what a Put of it puts there, and all else is refused with the error that is named first.
func TestAllShortBodies(t *testing.T) {
	for n := range uint32(8) {
		for length := range 9 {
			each(length, func(body string) {
				checkText(t, n, body)
				checkList(t, n, body)
			})
		}
	}
}

func checkText(t *testing.T, n uint32, body string) {
	b := number(n) + body
	s, next, e := word.GetText([]byte(b), 0)
	if e == nil {
		if strings.Contains(s, "\x00") || !strings.HasPrefix(b, text(s)) || next != len(text(s)) {
			t.Errorf("GetText %q: %q, %d", b, s, next)
		}
		return
	}
	want := api.ErrBytes
	if n > 0 && len(body) < int(n+3)/4*4 {
		want = api.ErrShort
	} else if n > 0 && strings.HasPrefix(b, text(body[:n-1])) && !strings.Contains(body[:n-1], "\x00") {
		want = nil
	}
	if s != "" || next != 0 || !just(e, want) {
		t.Errorf("GetText %q: %q, %d, %v; want %v", b, s, next, e, want)
	}
}

func checkList(t *testing.T, n uint32, body string) {
	b := number(n) + body
	s, next, e := word.GetList([]byte(b), 0)
	if e == nil {
		if !strings.HasPrefix(b, list(s)) || next != len(list(s)) {
			t.Errorf("GetList %q: %q, %d", b, s, next)
		}
		return
	}
	want := api.ErrBytes
	if len(body) < int(n+3)/4*4 {
		want = api.ErrShort
	} else if strings.HasPrefix(b, list(body[:n])) {
		want = nil
	}
	if s != "" || next != 0 || !just(e, want) {
		t.Errorf("GetList %q: %q, %d, %v; want %v", b, s, next, e, want)
	}
}

// puts are the functions that take a list to put behind.
func puts() map[string]func(b []byte, i int) []byte {
	return map[string]func(b []byte, i int) []byte{
		"Put":     func(b []byte, i int) []byte { return word.Put(b, uint32(i)) },
		"PutText": func(b []byte, i int) []byte { return word.PutText(b, strings.Repeat("t", i)) },
		"PutList": func(b []byte, i int) []byte { return word.PutList(b, strings.Repeat("l", i)) },
	}
}

func TestPutsLeaveTheSpareRoom(t *testing.T) {
	for name, put := range puts() {
		for i := range 9 {
			for length := range 3 {
				room := bytes.Repeat([]byte{0xee}, 64)
				put(room[:length], i)
				if !bytes.Equal(room, bytes.Repeat([]byte{0xee}, 64)) {
					t.Errorf("%s of %d behind %d: % x", name, i, length, room)
				}
			}
		}
	}
}

// What was put behind a list once is not turned when something else is put behind the same list, its answer's spare room included.
func TestPutsBehindOneList(t *testing.T) {
	for name, put := range puts() {
		base := word.PutList(nil, "a list that is longer than its first room")
		for i := range 9 {
			one, two := put(base, i), put(base, i+1)
			if string(one) != string(put(base, i)) || string(two) != string(put(base, i+1)) {
				t.Errorf("%s: % x, % x", name, one, two)
			}
			kept := string(two)
			spare := one[:cap(one)]
			for k := range spare[len(base):] {
				spare[len(base)+k] = 0xee
			}
			if string(two) != kept {
				t.Errorf("%s: two answers share memory", name)
			}
		}
	}
}

func TestNilAndEmptyAreOne(t *testing.T) {
	for name, put := range puts() {
		if string(put(nil, 3)) != string(put([]byte{}, 3)) {
			t.Error(name)
		}
	}
	for _, b := range [][]byte{nil, {}} {
		if v, e := word.Get(b, 0); v != 0 || !just(e, api.ErrShort) {
			t.Error(v, e)
		}
		if v, e := word.Get(b, 1); v != 0 || !just(e, api.ErrArg) {
			t.Error(v, e)
		}
	}
}

func TestGetsNeitherTurnNorKeepTheirList(t *testing.T) {
	b := []byte(text("abc") + list("de"))
	before := string(b)
	s, _, _ := word.GetText(b, 0)
	l, _, _ := word.GetList(b, 8)
	if string(b) != before {
		t.Errorf("turned: % x", b)
	}
	clear(b)
	if s != "abc" || l != "de" {
		t.Errorf("kept: %q, %q", s, l)
	}
}

func TestFixed(t *testing.T) {
	for n, want := range map[int]int32{
		0: 0, 1: 256, -1: -256, 3: 768, -3: -768, 1000: 256000,
		1<<23 - 2: math.MaxInt32 - 511, 1<<23 - 1: math.MaxInt32 - 255, 1 << 23: math.MaxInt32 - 255, 1<<23 + 1: math.MaxInt32 - 255,
		-1<<23 + 1: math.MinInt32 + 256, -1 << 23: math.MinInt32, -1<<23 - 1: math.MinInt32,
		1 << 24: math.MaxInt32 - 255, 1 << 31: math.MaxInt32 - 255, 1 << 32: math.MaxInt32 - 255, 1 << 55: math.MaxInt32 - 255, 1 << 56: math.MaxInt32 - 255,
		-1 << 24: math.MinInt32, -1 << 31: math.MinInt32, -1 << 32: math.MinInt32, -1 << 55: math.MinInt32, -1 << 56: math.MinInt32,
		math.MaxInt: math.MaxInt32 - 255, math.MinInt: math.MinInt32,
	} {
		if got := word.Fixed(n); got != want {
			t.Errorf("%d: %d, want %d", n, got, want)
		}
	}
}

func TestWhole(t *testing.T) {
	for v, want := range map[int32]int{
		0: 0, 1: 0, 255: 0, 256: 1, 257: 1, 511: 1, 512: 2,
		-1: -1, -255: -1, -256: -1, -257: -2, -511: -2, -512: -2, -513: -3,
		math.MaxInt32: 1<<23 - 1, math.MaxInt32 - 255: 1<<23 - 1, math.MaxInt32 - 256: 1<<23 - 2,
		math.MinInt32: -1 << 23, math.MinInt32 + 255: -1 << 23, math.MinInt32 + 256: -1<<23 + 1,
	} {
		if got := word.Whole(v); got != want {
			t.Errorf("%d: %d, want %d", v, got, want)
		}
	}
	for v := int32(-2000); v <= 2000; v++ {
		if want := int(math.Floor(float64(v) / 256)); word.Whole(v) != want {
			t.Errorf("%d: %d, want %d", v, word.Whole(v), want)
		}
	}
}

func TestWholeOfFixed(t *testing.T) {
	for _, from := range []int{-1 << 23, -1000, 1<<23 - 1000} {
		for n := from; n < from+1000; n++ {
			if got := word.Whole(word.Fixed(n)); got != n {
				t.Errorf("%d: %d", n, got)
			}
		}
	}
}
