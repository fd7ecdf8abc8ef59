package wire_test

import (
	"errors"
	"math"
	"slices"
	"strings"
	"testing"

	"tableau/api"
	"tableau/sig"
	"tableau/wire"
)

// known are all errors there are: an answer must be just one of them.
var known = []error{
	api.ErrArg, api.ErrShort, api.ErrBytes, api.ErrBig, api.ErrObject, api.ErrMethod, api.ErrFormat, api.ErrStride,
	api.ErrFile, api.ErrRole, api.ErrPlace, api.ErrState, api.ErrSerial, api.ErrFull, api.ErrGone, api.ErrSheet,
}

// just tells whether e is want, with its text, and none of the others.
func just(e, want error) bool {
	for _, k := range known {
		if errors.Is(e, k) != (k == want) {
			return false
		}
	}
	if want == nil {
		return e == nil
	}
	return e.Error() == want.Error()
}

// letters are all letters that a signature may have.
const letters = "iufonsa"

// number is v's four bytes, spelt without the packages.
func number(v int) string {
	u := uint32(v)
	return string([]byte{byte(u % 256), byte(u / 256 % 256), byte(u / 65536 % 256), byte(u / 16777216)})
}

// filled is s, with bytes 0 up to a multiple of four.
func filled(s string) string {
	for len(s)%4 != 0 {
		s += "\x00"
	}
	return s
}

// text and list are a text's and a list's bytes, spelt without the packages.
func text(s string) string { return number(len(s)+1) + filled(s+"\x00") }
func list(s string) string { return number(len(s)) + filled(s) }

// body is an argument's bytes.
func body(a api.Arg) string {
	if a.Kind == 's' {
		return text(a.S)
	}
	if a.Kind == 'a' {
		return list(a.S)
	}
	return number(a.N)
}

// bodies are the arguments' bytes, one behind the other.
func bodies(args []api.Arg) string {
	all := ""
	for _, a := range args {
		all += body(a)
	}
	return all
}

// whole is a message's bytes.
func whole(m api.Msg) string {
	b := bodies(m.Args)
	size := len(b) + 8
	return number(m.Object) + string([]byte{byte(m.Op), byte(m.Op >> 8), byte(size), byte(size >> 8)}) + b
}

// num, str are an argument that is a number, a text or a list.
func num(kind byte, n int) api.Arg    { return api.Arg{Kind: kind, N: n} }
func str(kind byte, s string) api.Arg { return api.Arg{Kind: kind, S: s} }
func msg(args ...api.Arg) api.Msg     { return api.Msg{Object: 1, Args: args} }
func raw(s string) api.Raw            { return api.Raw{Object: 1, Body: s} }
func long(n int) string               { return strings.Repeat("x", n) }
func zeros(n int) string              { return strings.Repeat("\x00", n) }
func none(m api.Msg) bool             { return m.Object == 0 && m.Op == 0 && len(m.Args) == 0 }
func same(a, b api.Msg) bool {
	return a.Object == b.Object && a.Op == b.Op && slices.Equal(a.Args, b.Args)
}
func signature(args []api.Arg) (s string) {
	for _, a := range args {
		s += string([]byte{a.Kind})
	}
	return s
}

// good are arguments that may be, at the edges.
func good() []api.Arg {
	all := make([]byte, 200)
	for i := range all {
		all[i] = byte(i)
	}
	list := []api.Arg{
		str('s', ""), str('s', "a"), str('s', "abc"), str('s', "abcd"), str('s', "\x01\xff"), str('s', "ä"), str('s', long(199)), str('s', long(200)),
		str('a', ""), str('a', "\x00"), str('a', "abc"), str('a', "abcd"), str('a', "a\x00b\x00c"), str('a', long(199)), str('a', long(200)), str('a', string(all)),
	}
	for _, n := range []int{math.MinInt32, math.MinInt32 + 1, -256, -1, 0, 1, 255, 256, 1 << 16, math.MaxInt32 - 1, math.MaxInt32} {
		list = append(list, num('i', n), num('f', n))
	}
	for _, n := range []int{1, 2, 255, 256, 1 << 16, math.MaxInt32, 1 << 31, math.MaxUint32 - 1, math.MaxUint32} {
		list = append(list, num('u', n), num('o', n), num('n', n))
	}
	return append(list, num('u', 0), num('o', 0))
}

// bad are arguments of a kind that is one, but that may not be.
func bad() []api.Arg {
	list := []api.Arg{
		num('n', 0), str('s', "\x00"), str('s', "a\x00"), str('s', "\x00a"), str('s', "a\x00b"), str('s', long(201)), str('s', long(4096)), str('s', long(199)+"\x00"), str('s', long(200)+"\x00"),
		str('a', long(201)), str('a', long(4096)), str('a', zeros(201)),
	}
	for _, n := range []int{math.MinInt, math.MinInt32 - 1, math.MaxInt32 + 1, math.MaxUint32, 1 << 32, math.MaxInt} {
		list = append(list, num('i', n), num('f', n))
	}
	for _, n := range []int{math.MinInt, math.MinInt32, -1 << 32, -1, 1 << 32, 1<<32 + 1, 1 << 40, math.MaxInt} {
		list = append(list, num('u', n), num('o', n), num('n', n))
	}
	for _, n := range []int{math.MinInt, -1, 1, 4, 1 << 32, math.MaxInt} {
		list = append(list, num('s', n), num('a', n), api.Arg{Kind: 's', N: n, S: "abc"}, api.Arg{Kind: 'a', N: n, S: "abc"})
	}
	for _, kind := range []byte("iufon") {
		for _, s := range []string{"a", "\x00", " ", long(201)} {
			list = append(list, api.Arg{Kind: kind, N: 1, S: s})
		}
	}
	return list
}

// refused asks Check and Put of what may not be.
func refused(t *testing.T, m api.Msg, sig string) {
	t.Helper()
	if e := wire.Check(m, sig); !just(e, api.ErrArg) {
		t.Errorf("Check(%.80v, %q): %v", m, sig, e)
	}
	if b, e := wire.Put(m, sig); len(b) != 0 || !just(e, api.ErrArg) {
		t.Errorf("Put(%.80v, %q): %d bytes, %v", m, sig, len(b), e)
	}
}

// taken asks Check and Put of what may be, and Head and Get of what that is.
func taken(t *testing.T, m api.Msg, sig string) {
	t.Helper()
	if e := wire.Check(m, sig); e != nil {
		t.Errorf("Check(%.80v, %q): %v", m, sig, e)
	}
	b, e := wire.Put(m, sig)
	if string(b) != whole(m) || e != nil {
		t.Fatalf("Put(%.80v, %q): %.80q, %v", m, sig, b, e)
	}
	object, op, size, e := wire.Head(b)
	if object != m.Object || op != m.Op || size != len(b) || e != nil {
		t.Errorf("Head(%.80q): %d, %d, %d, %v", b, object, op, size, e)
	}
	got, e := wire.Get(api.Raw{Object: object, Op: op, Body: string(b[8:])}, sig)
	if !same(got, m) || e != nil {
		t.Errorf("Get(%.80q, %q): %.80v, %v", b, sig, got, e)
	}
}

func TestExample(t *testing.T) {
	b, e := wire.Put(api.Msg{Object: 1, Op: 0, Args: []api.Arg{num('n', 2)}}, "n")
	if string(b) != "\x01\x00\x00\x00\x00\x00\x0c\x00\x02\x00\x00\x00" || e != nil {
		t.Errorf("% x %v", b, e)
	}
}

func TestPutSpelt(t *testing.T) {
	m := api.Msg{Object: 0x04030201, Op: 0x0605, Args: []api.Arg{num('i', -2), num('u', 0xfffefdfc), num('f', -256), num('o', 0), num('n', 9), str('s', "abcd"), str('a', "xyz")}}
	want := "\x01\x02\x03\x04" + "\x05\x06\x30\x00" + "\xfe\xff\xff\xff" + "\xfc\xfd\xfe\xff" + "\x00\xff\xff\xff" + "\x00\x00\x00\x00" + "\x09\x00\x00\x00" + "\x05\x00\x00\x00abcd\x00\x00\x00\x00" + "\x03\x00\x00\x00xyz\x00"
	if b, e := wire.Put(m, "iufonsa"); string(b) != want || e != nil {
		t.Errorf("% x %v", b, e)
	}
}

func TestObjectsAndOps(t *testing.T) {
	for _, object := range []int{1, 2, 255, 256, 0xff000000, math.MaxInt32, 1 << 31, math.MaxUint32} {
		for _, op := range []int{0, 1, 255, 256, 32768, 65535} {
			taken(t, api.Msg{Object: object, Op: op}, "")
			taken(t, api.Msg{Object: object, Op: op, Args: []api.Arg{num('u', 7)}}, "u")
		}
	}
	for _, object := range []int{math.MinInt, -1 << 32, -1, 0, 1 << 32, 1<<32 + 1, math.MaxInt} {
		refused(t, api.Msg{Object: object}, "")
		refused(t, api.Msg{Object: object, Args: []api.Arg{num('u', 7)}}, "u")
	}
	for _, op := range []int{math.MinInt, -65536, -1, 65536, 65537, 1 << 32, math.MaxInt} {
		refused(t, api.Msg{Object: 1, Op: op}, "")
		refused(t, api.Msg{Object: 1, Op: op, Args: []api.Arg{num('u', 7)}}, "u")
	}
}

func TestGoodArguments(t *testing.T) {
	for _, a := range good() {
		for _, b := range good() {
			taken(t, msg(a, b), signature([]api.Arg{a, b}))
		}
		taken(t, msg(a), string([]byte{a.Kind}))
	}
	taken(t, msg(good()...), signature(good()))
}

func TestBadArguments(t *testing.T) {
	for _, a := range bad() {
		refused(t, msg(a), string([]byte{a.Kind}))
		refused(t, msg(num('u', 0), a), "u"+string([]byte{a.Kind}))
		refused(t, msg(a, num('u', 0)), string([]byte{a.Kind})+"u")
	}
}

// An argument is of its letter's kind, and of no other; a letter that is none is none, even if the kind is the same.
func TestKindsAreTheirLetters(t *testing.T) {
	for kind := range 256 {
		for letter := range 256 {
			m := msg(num(byte(kind), 1))
			if strings.IndexByte("sa", byte(kind)) >= 0 {
				m = msg(str(byte(kind), "a"))
			}
			sig := string([]byte{byte(letter)})
			if kind == letter && strings.IndexByte(letters, byte(kind)) >= 0 {
				taken(t, m, sig)
				continue
			}
			refused(t, m, sig)
		}
	}
}

func TestAsManyArgumentsAsLetters(t *testing.T) {
	for args := range 6 {
		for n := range 6 {
			m := api.Msg{Object: 1, Args: slices.Repeat([]api.Arg{num('o', 0)}, args)}
			if args == n {
				taken(t, m, strings.Repeat("o", n))
				continue
			}
			refused(t, m, strings.Repeat("o", n))
		}
	}
}

// A message of 4096 bytes may be, one of more may not; what Check refuses is refused first.
func TestTheGreatestMessage(t *testing.T) {
	for n := 1018; n <= 1030; n++ {
		m := api.Msg{Object: 1, Args: slices.Repeat([]api.Arg{num('u', 5)}, n)}
		sig := strings.Repeat("u", n)
		if 8+4*n <= api.MaxMsg {
			taken(t, m, sig)
			continue
		}
		if e := wire.Check(m, sig); e != nil {
			t.Errorf("Check of %d: %v", n, e)
		}
		if b, e := wire.Put(m, sig); len(b) != 0 || !just(e, api.ErrBig) {
			t.Errorf("Put of %d: %d, %v", n, len(b), e)
		}
		m.Args[n-1].N = -1
		refused(t, m, sig)
	}
	// 19 texts of 208 bytes, and the rest.
	for rest := 112; rest <= 136; rest++ {
		args := append(slices.Repeat([]api.Arg{str('s', long(200))}, 19), str('a', long(rest)))
		m, sig := msg(args...), strings.Repeat("s", 19)+"a"
		if len(whole(m)) <= api.MaxMsg {
			taken(t, m, sig)
			continue
		}
		if b, e := wire.Put(m, sig); len(b) != 0 || !just(e, api.ErrBig) {
			t.Errorf("Put of %d: %d, %v", rest, len(b), e)
		}
	}
}

func TestVeryManyArguments(t *testing.T) {
	const n = 1 << 20
	m, sig := api.Msg{Object: 1, Args: slices.Repeat([]api.Arg{str('s', long(200))}, n)}, strings.Repeat("s", n)
	if b, e := wire.Put(m, sig); len(b) != 0 || !just(e, api.ErrBig) {
		t.Error(len(b), e)
	}
	if got, e := wire.Get(raw(""), sig); !none(got) || !just(e, api.ErrShort) {
		t.Error(e)
	}
	if got, e := wire.Get(raw(zeros(1<<20)), ""); !none(got) || !just(e, api.ErrBytes) {
		t.Error(e)
	}
}

// head is a head's eight bytes.
func head(object, op, size int) string { return number(object) + number(size<<16|op) }

func TestHeads(t *testing.T) {
	for size := range 65536 {
		var want error
		if size < 8 || size%4 != 0 {
			want = api.ErrBytes
		} else if size > 4096 {
			want = api.ErrBig
		}
		object, op, got, e := wire.Head([]byte(head(9, 258, size)))
		if want != nil && (object != 0 || op != 0 || got != 0 || !just(e, want)) {
			t.Errorf("size %d: %d, %d, %d, %v", size, object, op, got, e)
		}
		if want == nil && (object != 9 || op != 258 || got != size || e != nil) {
			t.Errorf("size %d: %d, %d, %d, %v", size, object, op, got, e)
		}
	}
}

func TestHeadsOfAnyObjectAndOp(t *testing.T) {
	for _, object := range []int{0, 1, 0x04030201, 1 << 31, math.MaxUint32} {
		for _, op := range []int{0, 1, 255, 256, 0x1234, 32768, 65535} {
			for _, behind := range []string{"", "\xff", "\xff\xff\xff\xff", long(5000)} {
				a, b, c, e := wire.Head([]byte(head(object, op, 12) + behind))
				if a != object || b != op || c != 12 || e != nil {
					t.Errorf("%d, %d: %d, %d, %d, %v", object, op, a, b, c, e)
				}
			}
		}
	}
}

// Fewer than eight bytes are too few, whatever stands there and whatever room is behind.
func TestShortHeads(t *testing.T) {
	for _, b := range []string{zeros(16), head(1, 0, 12) + zeros(8), head(1, 0, 4100) + zeros(8), strings.Repeat("\xff", 16)} {
		for n := range 8 {
			if object, op, size, e := wire.Head([]byte(b)[:n]); object != 0 || op != 0 || size != 0 || !just(e, api.ErrShort) {
				t.Errorf("%d bytes: %d, %d, %d, %v", n, object, op, size, e)
			}
		}
	}
	if object, op, size, e := wire.Head(nil); object != 0 || op != 0 || size != 0 || !just(e, api.ErrShort) {
		t.Error(object, op, size, e)
	}
}

// wrong is a Raw's Body with a signature, and the error that is due.
type wrong struct {
	body, sig string
	want      error
}

// wrongs are wrong ones, each with what applies first.
func wrongs() []wrong {
	list := []wrong{
		{text("")[:4], "s", api.ErrShort}, {number(0), "s", api.ErrBytes}, {number(0) + "abcd", "s", api.ErrBytes},
		{number(4097), "s", api.ErrBig}, {number(4097), "a", api.ErrBig}, {number(4096), "s", api.ErrShort}, {number(4096), "a", api.ErrShort},
		{number(math.MaxUint32), "s", api.ErrBig}, {number(math.MaxUint32), "a", api.ErrBig},
		{number(2) + "ab\x00\x00", "s", api.ErrBytes}, {number(2) + "a\x00\x00\x01", "s", api.ErrBytes}, {number(3) + "\x00a\x00\x00", "s", api.ErrBytes},
		{number(1) + "a\x00\x00\x01", "a", api.ErrBytes},
		// More than MaxText: word has no quarrel with them.
		{text(long(201)), "s", api.ErrBytes}, {list(long(201)), "a", api.ErrBytes}, {text(long(4095)), "s", api.ErrBytes}, {list(long(4096)), "a", api.ErrBytes},
		// But where it has one, that is ahead.
		{text(long(201))[:204], "s", api.ErrShort}, {list(long(201))[:200], "a", api.ErrShort}, {text(long(4096)), "s", api.ErrBig}, {list(long(4097)), "a", api.ErrBig},
		{number(0), "n", api.ErrBytes}, {number(0) + number(0), "un", api.ErrBytes}, {number(0) + number(0), "nu", api.ErrBytes},
		{"\x00", "", api.ErrBytes}, {number(0), "", api.ErrBytes}, {number(1) + number(2), "u", api.ErrBytes}, {text("abc") + "\x00", "s", api.ErrBytes},
		// Argument by argument: what is wrong with the first is told ahead of the second's, and of what stands behind.
		{number(0), "nu", api.ErrBytes}, {number(0), "n?", api.ErrBytes}, {number(1), "n?", api.ErrArg}, {number(1), "nu", api.ErrShort},
		{number(4097), "sn", api.ErrBig}, {number(0) + number(4097), "ns", api.ErrBytes}, {number(1) + number(4097) + "q", "ns", api.ErrBig},
		{text(long(201)) + number(4097), "sa", api.ErrBytes}, {number(1) + "\x00", "uu", api.ErrShort}, {number(1), "?n", api.ErrArg}, {number(0) + "q", "?n", api.ErrArg},
		{"", "?", api.ErrArg}, {"\x00", "?", api.ErrArg}, {"", "u?", api.ErrShort}, {"", "?u", api.ErrArg}, {"abc", "s?", api.ErrShort},
	}
	for _, letter := range letters {
		for n := range 4 {
			list = append(list, wrong{zeros(n), string(letter), api.ErrShort}, wrong{number(7) + zeros(n), "u" + string(letter), api.ErrShort})
		}
	}
	return list
}

func TestWrongBodies(t *testing.T) {
	for _, w := range wrongs() {
		if m, e := wire.Get(raw(w.body), w.sig); !none(m) || !just(e, w.want) {
			t.Errorf("Get(%.20q, %q): %.80v, %v; want %v", w.body, w.sig, m, e, w.want)
		}
		// What Check says of the object and the op comes behind.
		if m, e := wire.Get(api.Raw{Object: 0, Op: -1, Body: w.body}, w.sig); !none(m) || !just(e, w.want) {
			t.Errorf("Get(0, -1, %.20q, %q): %.80v, %v; want %v", w.body, w.sig, m, e, w.want)
		}
	}
}

func TestLettersThatAreNone(t *testing.T) {
	for letter := range 256 {
		sig := string([]byte{byte(letter)})
		for _, b := range []string{"", "\x01\x00", number(0), number(1), text("a"), long(100)} {
			m, e := wire.Get(raw(b), sig)
			if strings.Contains(letters, sig) {
				if errors.Is(e, api.ErrArg) {
					t.Errorf("Get(%q, %q): %v", b, sig, e)
				}
				continue
			}
			if !none(m) || !just(e, api.ErrArg) {
				t.Errorf("Get(%q, %q): %v, %v", b, sig, m, e)
			}
		}
	}
	for _, sig := range []string{"I", "ä", "u\x00", "uU", "ü"} {
		if m, e := wire.Get(raw(number(1)), sig); !none(m) || !just(e, api.ErrArg) {
			t.Errorf("%q: %v, %v", sig, m, e)
		}
	}
}

func TestGetRefusesWhatCheckRefuses(t *testing.T) {
	for _, r := range []api.Raw{{Object: 0}, {Object: -1}, {Object: 1 << 32}, {Object: math.MinInt}, {Object: math.MaxInt}, {Object: 1, Op: -1}, {Object: 1, Op: 65536}, {Object: 1, Op: math.MinInt}, {Object: 1, Op: math.MaxInt}} {
		for body, sig := range map[string]string{"": "", number(1): "n", text("abc"): "s"} {
			r.Body = body
			if m, e := wire.Get(r, sig); !none(m) || !just(e, api.ErrArg) {
				t.Errorf("%v: %v, %v", r, m, e)
			}
		}
	}
}

func TestGetSigns(t *testing.T) {
	for _, v := range []int{0, 1, math.MaxInt32, 1 << 31, 1<<31 + 1, math.MaxUint32} {
		m, e := wire.Get(api.Raw{Object: 3, Op: 4, Body: strings.Repeat(number(v), 4)}, "ifuo")
		signed := int(int32(uint32(v)))
		if e != nil || !same(m, api.Msg{Object: 3, Op: 4, Args: []api.Arg{num('i', signed), num('f', signed), num('u', v), num('o', v)}}) {
			t.Errorf("%d: %v, %v", v, m, e)
		}
	}
}

// A body may be longer than a message: its bytes are bounded by who reads them.
func TestGetOfALongBody(t *testing.T) {
	m, e := wire.Get(raw(strings.Repeat(text(long(200)), 30)), strings.Repeat("s", 30))
	if e != nil || !same(m, msg(slices.Repeat([]api.Arg{str('s', long(200))}, 30)...)) {
		t.Error(e)
	}
}

// pieces are some bytes of which bodies are put together, so that many are messages and many nearly.
func pieces() []string {
	return []string{"", "\x00", "\x01", "\xff\xff", number(0), number(1), number(2), number(math.MaxUint32), number(4097), text(""), text("abc"), "ab\x00\x00", list("\x00\x01"), text(long(200)), text(long(201))}
}

// What is got is put as it was; and nothing that is refused has bytes that something could be put as.
func TestWhatIsGotIsPutAsItWas(t *testing.T) {
	var sigs []string
	for _, a := range " " + letters {
		for _, b := range " " + letters {
			sigs = append(sigs, strings.TrimSpace(string(a)+string(b)))
		}
	}
	got := 0
	for _, a := range pieces() {
		for _, b := range pieces() {
			for _, c := range pieces() {
				for _, sig := range sigs {
					m, e := wire.Get(api.Raw{Object: 5, Op: 6, Body: a + b + c}, sig)
					if e != nil {
						continue
					}
					got++
					if p, e := wire.Put(m, sig); e != nil || string(p) != head(5, 6, 8+len(a+b+c))+a+b+c {
						t.Fatalf("%q, %q: %v, %q, %v", a+b+c, sig, m, p, e)
					}
				}
			}
		}
	}
	if got < 1000 {
		t.Errorf("only %d were got", got)
	}
}

// Each request and event there is can be put and got.
func TestAllSignatures(t *testing.T) {
	one := func(letter byte) api.Arg {
		if letter == 's' || letter == 'a' {
			return str(letter, "abc")
		}
		return num(letter, 3)
	}
	for _, ask := range []func(face, op int) (string, error){sig.Request, sig.Event} {
		for face := range 20 {
			for op := range 8 {
				s, e := ask(face, op)
				if e != nil {
					continue
				}
				m := api.Msg{Object: face, Op: op}
				for i := range len(s) {
					m.Args = append(m.Args, one(s[i]))
				}
				taken(t, m, s)
			}
		}
	}
}

// What is handed in is neither changed nor kept, and what is answered is new.
func TestNothingIsShared(t *testing.T) {
	m := msg(num('u', 7), str('s', "abc"), num('n', 9))
	want := whole(m)
	room := append(slices.Clone(m.Args), num('x', 1), num('x', 2))
	m.Args = room[:3]
	first, _ := wire.Put(m, "usn")
	second, _ := wire.Put(m, "usn")
	m.Args[0].N = 8
	for i := range first[:cap(first)] {
		first[:cap(first)][i] = 0xee
	}
	if string(second) != want || room[3].N != 1 || room[4].N != 2 {
		t.Errorf("%q", second)
	}
	r := api.Raw{Object: 1, Body: want[8:]}
	a, _ := wire.Get(r, "usn")
	b, _ := wire.Get(r, "usn")
	for i := range a.Args[:cap(a.Args)] {
		a.Args[:cap(a.Args)][i] = api.Arg{}
	}
	if !same(b, msg(num('u', 7), str('s', "abc"), num('n', 9))) {
		t.Error(b)
	}
	h := []byte(want)
	wire.Head(h)
	if string(h) != want {
		t.Errorf("%q", h)
	}
}

// Errors that are found at an argument are wrapped; the text stays that of package api, whichever argument it is.
func TestErrorsAtArgumentsAreWrapped(t *testing.T) {
	for at := range 5 {
		m := msg(slices.Repeat([]api.Arg{num('u', 1)}, 5)...)
		m.Args[at].N = -1
		e := wire.Check(m, "uuuuu")
		if errors.Unwrap(e) != api.ErrArg || !just(e, api.ErrArg) {
			t.Errorf("%d: %v", at, e)
		}
		_, e = wire.Get(raw(strings.Repeat(number(1), at)), "uuuuu")
		if errors.Unwrap(e) != api.ErrShort || !just(e, api.ErrShort) {
			t.Errorf("%d: %v", at, e)
		}
	}
}
