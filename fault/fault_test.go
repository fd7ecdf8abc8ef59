package fault_test

import (
	"errors"
	"fmt"
	"math"
	"strings"
	"testing"

	"tableau/api"
	"tableau/fault"
)

// row is an error with its place in the list of P2.1, and its code of P2.2.
type row struct {
	why        error
	kind, code int
}

var rows = []row{
	{api.ErrArg, 1, 0},
	{api.ErrShort, 2, 1},
	{api.ErrBytes, 3, 1},
	{api.ErrBig, 4, 2},
	{api.ErrObject, 5, 0},
	{api.ErrMethod, 6, 1},
	{api.ErrFormat, 7, 3},
	{api.ErrStride, 8, 4},
	{api.ErrFile, 9, 5},
	{api.ErrRole, 10, 6},
	{api.ErrPlace, 11, 7},
	{api.ErrState, 12, 8},
	{api.ErrSerial, 13, 9},
	{api.ErrFull, 14, 2},
	{api.ErrGone, 15, 10},
	{api.ErrSheet, 16, 10},
}

// asked is an error that says by a method of its own what it is.
type asked struct{ as error }

func (a asked) Error() string        { return "asked" }
func (a asked) Is(target error) bool { return target == a.as }

// holder is an error that holds a list, if it is given one.
type holder struct{ held any }

func (h holder) Error() string { return "holder" }

// strange are errors that are none of package api's.
func strange() []error {
	return []error{
		errors.New("other"),
		errors.New("argument"), // the same words, another error
		errors.New(""),
		fmt.Errorf("x: %w", errors.New("short")),
		errors.Join(errors.New("a"), errors.New("b")),
		&api.Fault{Object: 1, Code: 2, Text: "role"},
		fault.New(5, 6, nil),
		fault.Wrap(errors.New("role"), "role"),
		holder{[]int{1}},
	}
}

// forms are ways in which an error is, or wraps, another one.
func forms(e error) []error {
	return []error{
		e,
		fault.Wrap(e, "x"),
		fault.Wrap(fault.Wrap(e, ""), "y"),
		fmt.Errorf("words %w words", e),
		errors.Join(errors.New("other"), e),
		fault.New(3, 4, e),
		fault.Wrap(fault.New(3, 4, fault.Wrap(e, "x")), "y"),
		&api.Fault{Why: e},
		asked{e},
	}
}

func TestKindIsThePlaceInTheList(t *testing.T) {
	for _, r := range rows {
		for i, e := range forms(r.why) {
			if got := fault.Kind(e); got != r.kind {
				t.Errorf("%v, form %d: %d, not %d", r.why, i, got, r.kind)
			}
		}
	}
}

func TestKindOfNilAndOfOthers(t *testing.T) {
	if got := fault.Kind(nil); got != 0 {
		t.Error("nil:", got)
	}
	for i, e := range strange() {
		if got := fault.Kind(e); got != 17 {
			t.Errorf("%d: %v: %d", i, e, got)
		}
	}
}

func TestKindAndCodeAreOfTheFirstOfTheList(t *testing.T) {
	for _, a := range rows {
		for _, b := range rows {
			want := a
			if b.kind < a.kind {
				want = b
			}
			for i, e := range []error{
				errors.Join(a.why, b.why),
				fault.Wrap(errors.Join(a.why, b.why), "x"),
				fault.New(1, 1, errors.Join(fault.Wrap(a.why, "x"), b.why)),
			} {
				if kind, code := fault.Kind(e), fault.Code(e); kind != want.kind || code != want.code {
					t.Errorf("%v and %v, %d: kind %d, code %d", a.why, b.why, i, kind, code)
				}
			}
		}
	}
}

func TestIsIsErrorsIs(t *testing.T) {
	other := errors.New("other")
	list := []error{nil, other, errors.New("other"), fault.New(1, 2, other), fault.New(1, 2, nil), errors.Join(other, api.ErrBig)}
	for _, r := range rows {
		list = append(list, forms(r.why)...)
	}
	for i, e := range list {
		for j, why := range list {
			if got, want := fault.Is(e, why), errors.Is(e, why); got != want {
				t.Errorf("%d %v, %d %v: %v", i, e, j, why, got)
			}
		}
	}
	if !fault.Is(nil, nil) || fault.Is(nil, other) || fault.Is(other, nil) {
		t.Error("nil")
	}
}

func TestIsDoesNotPanicAtErrorsThatHoldLists(t *testing.T) {
	e := holder{[]int{1}}
	if fault.Is(e, e) || fault.Is(fault.Wrap(e, "x"), e) || fault.Is(e, api.ErrArg) || fault.Is(api.ErrArg, e) {
		t.Error("the same")
	}
	if !fault.Is(holder{1}, holder{1}) {
		t.Error("not the same")
	}
}

func TestCodeIsByKind(t *testing.T) {
	for _, r := range rows {
		for i, e := range forms(r.why) {
			if got := fault.Code(e); got != r.code {
				t.Errorf("%v, form %d: %d, not %d", r.why, i, got, r.code)
			}
		}
	}
	for i, e := range append(strange(), nil) {
		if got := fault.Code(e); got != 10 {
			t.Errorf("other %d: %d", i, got)
		}
	}
}

// A fault's own number says nothing of the code that is sent for it.
func TestCodeIsNotTheFaultsOwn(t *testing.T) {
	if got := fault.Code(fault.New(1, 3, api.ErrRole)); got != 6 {
		t.Error(got)
	}
	if got := fault.Code(fault.New(1, 3, nil)); got != 10 {
		t.Error(got)
	}
}

func TestNewHasAFaultInIt(t *testing.T) {
	whys := []error{nil, errors.New(""), errors.New("any: words"), fault.Wrap(api.ErrRole, "x"), errors.Join(api.ErrArg, api.ErrBig)}
	for _, r := range rows {
		whys = append(whys, r.why)
	}
	for _, why := range whys {
		for _, n := range [][2]int{{0, 0}, {3, 6}, {-1, -2}, {math.MaxInt, math.MinInt}, {api.MaxObjects + 1, 11}} {
			text := ""
			if why != nil {
				text = why.Error()
			}
			want := api.Fault{Object: n[0], Code: n[1], Text: text, Why: why}
			e := fault.New(n[0], n[1], why)
			var f *api.Fault
			if !errors.As(e, &f) || *f != want {
				t.Errorf("%v: %+v, not %+v", why, f, want)
			}
			if got, ok := fault.Of(e); !ok || got != want {
				t.Errorf("%v: %+v, %v, not %+v", why, got, ok, want)
			}
			if why != nil && !errors.Is(e, why) || e.Error() != text {
				t.Errorf("%v: %q", why, e)
			}
		}
	}
}

func TestFaultsOfTwoCallsHaveNothingInCommon(t *testing.T) {
	a, b := fault.New(3, 6, api.ErrRole), fault.New(3, 6, api.ErrRole)
	var f *api.Fault
	if errors.As(a, &f) {
		f.Object, f.Text = 9, "z"
	}
	if got, ok := fault.Of(b); !ok || got != (api.Fault{Object: 3, Code: 6, Text: "role", Why: api.ErrRole}) {
		t.Errorf("%+v", got)
	}
	got, _ := fault.Of(b)
	got.Object = 7
	if again, _ := fault.Of(b); again.Object != 3 {
		t.Error("what Of answers is the fault itself")
	}
}

func TestWrapPutsWordsAhead(t *testing.T) {
	if e := fault.Wrap(nil, "x"); e != nil {
		t.Error(e)
	}
	for _, text := range []string{"", "x", "%d", "a: b", ": ", "\x00\xff\n"} {
		for _, inner := range append(strange(), api.ErrFile, fault.New(1, 2, api.ErrFile), fmt.Errorf("y: %w", fault.Wrap(api.ErrBig, "z"))) {
			e := fault.Wrap(inner, text)
			if e == nil || e.Error() != text+": "+inner.Error() {
				t.Errorf("%q, %q: %q", text, inner, e)
			}
			if _, lists := inner.(holder); !lists && (!errors.Is(e, inner) || errors.Unwrap(e) != inner) {
				t.Errorf("%q does not wrap %q", e, inner)
			}
		}
	}
	if e := fault.Wrap(fault.Wrap(api.ErrRole, "x"), "y"); e.Error() != "y: x: role" {
		t.Error(e)
	}
}

func TestOfIsTheFirstFault(t *testing.T) {
	inner := fault.New(1, 2, api.ErrFile)
	outer := fault.New(9, 8, fault.Wrap(inner, "x"))
	want := api.Fault{Object: 9, Code: 8, Text: "x: file", Why: outer.(*api.Fault).Why}
	for i, e := range []error{outer, fault.Wrap(outer, "y"), errors.Join(outer, inner), errors.Join(api.ErrArg, outer, inner), fmt.Errorf("%w, %w", outer, inner)} {
		if got, ok := fault.Of(e); !ok || got != want {
			t.Errorf("%d: %+v, %v", i, got, ok)
		}
	}
}

func TestOfIsZeroIfThereIsNoFault(t *testing.T) {
	var nobody *api.Fault
	for i, e := range []error{nil, api.ErrRole, fault.Wrap(api.ErrRole, "x"), errors.Join(api.ErrArg, errors.New("y")), fault.Wrap(nil, "x"), nobody, holder{}} {
		if got, ok := fault.Of(e); ok || got != (api.Fault{}) {
			t.Errorf("%d: %+v, %v", i, got, ok)
		}
	}
}

func TestExample(t *testing.T) {
	got, ok := fault.Of(fault.Wrap(fault.New(3, 6, api.ErrRole), "x"))
	if !ok || got.Object != 3 || got.Code != 6 || got.Text != "role" || got.Why != api.ErrRole {
		t.Errorf("%+v", got)
	}
}

func TestAnyNumberOfWrapsTellsWhatTheFaultWraps(t *testing.T) {
	for _, n := range []int{0, 1, 2, 10, 1000, 100000} {
		for _, r := range rows {
			if n > 1000 && r.why != api.ErrSheet {
				continue
			}
			e := fault.New(4, 5, r.why)
			for range n {
				e = fault.Wrap(e, "w")
			}
			want := api.Fault{Object: 4, Code: 5, Text: r.why.Error(), Why: r.why}
			if got, ok := fault.Of(e); !ok || got != want {
				t.Fatalf("%d wraps: %+v, %v", n, got, ok)
			}
			if fault.Kind(e) != r.kind || fault.Code(e) != r.code || !fault.Is(e, r.why) {
				t.Fatalf("%d wraps: kind %d, code %d", n, fault.Kind(e), fault.Code(e))
			}
			if e.Error() != strings.Repeat("w: ", n)+r.why.Error() {
				t.Fatalf("%d wraps: %d bytes of words", n, len(e.Error()))
			}
		}
	}
}
