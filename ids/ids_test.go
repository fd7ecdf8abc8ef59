package ids_test

import (
	"errors"
	"math"
	"slices"
	"testing"

	"tableau/api"
	"tableau/ids"
)

// known are all errors there are: an answer must be just one of them.
var known = []error{
	api.ErrArg, api.ErrShort, api.ErrBytes, api.ErrBig, api.ErrObject, api.ErrMethod, api.ErrFormat, api.ErrStride,
	api.ErrFile, api.ErrRole, api.ErrPlace, api.ErrState, api.ErrSerial, api.ErrFull, api.ErrGone, api.ErrSheet,
}

// just tells whether e is want, with its text, and none of the others.
func just(e, want error) bool {
	for _, k := range known {
		if errors.Is(e, k) != (k == want) {
			return false
		}
	}
	if want == nil {
		return e == nil
	}
	return e.Error() == want.Error()
}

// what is an object, as a test has written it down: its interface and its version.
type what struct{ face, version int }

// asked are numbers that are asked for: all that may be, and many that may not.
func asked() []int {
	l := []int{math.MinInt, math.MinInt + 1, -1 << 32, -256, -255, -2, -1, 257, 511, 512, 1<<32 + 1, 1<<32 + 2, math.MaxInt - 1, math.MaxInt}
	for id := range api.MaxObjects + 2 {
		l = append(l, id)
	}
	return l
}

// holds wants the table to have just these objects, the display not named.
func holds(t *testing.T, x *ids.Table, want map[int]what) {
	t.Helper()
	all, of := []int{}, map[int][]int{}
	for _, id := range asked() {
		w, ok := want[id]
		if id == 1 {
			w, ok = what{1, 1}, true
		}
		if x.Face(id) != w.face || x.Version(id) != w.version {
			t.Errorf("%d: %d %d, not %v", id, x.Face(id), x.Version(id), w)
		}
		for face := -1; face <= 19; face++ {
			wrong := api.ErrObject
			if ok && face == w.face {
				wrong = nil
			}
			if e := x.Want(id, face); !just(e, wrong) {
				t.Errorf("Want(%d, %d): %v, not %v", id, face, e, wrong)
			}
		}
		if ok {
			all = append(all, id)
			of[w.face] = append(of[w.face], id)
		}
	}
	if l := x.All(); !slices.Equal(l, all) {
		t.Errorf("all: %v, not %v", l, all)
	}
	for face := -1; face <= 19; face++ {
		if l := x.Of(face); !slices.Equal(l, of[face]) {
			t.Errorf("of %d: %v, not %v", face, l, of[face])
		}
	}
}

// P6.1: a new table has the display alone.
func TestNew(t *testing.T) {
	holds(t, ids.New(), nil)
}

// P6.1: the example.
func TestExample(t *testing.T) {
	x := ids.New()
	if e := x.Add(2, 8, 1); e != nil {
		t.Error(e)
	}
	if e := x.Want(2, 9); !just(e, api.ErrObject) {
		t.Error(e)
	}
	holds(t, x, map[int]what{2: {8, 1}})
}

// P6.1: every number from 2 to 255 may be one, of every interface, the display's too, and of any version from 1 on.
func TestAdd(t *testing.T) {
	versions := []int{1, 2, 3, 255, 1 << 32, math.MaxInt}
	x, want := ids.New(), map[int]what{}
	for id := api.MaxObjects; id >= 2; id-- {
		w := what{1 + id%17, versions[id%len(versions)]}
		if e := x.Add(id, w.face, w.version); e != nil {
			t.Fatal(id, w, e)
		}
		want[id] = w
	}
	holds(t, x, want)
	for face := 1; face <= 17; face++ {
		for _, v := range versions {
			x := ids.New()
			if e := x.Add(2, face, v); e != nil {
				t.Error(face, v, e)
			}
			holds(t, x, map[int]what{2: {face, v}})
		}
	}
}

// P6.1: what may not be added, and that it has changed nothing: ErrArg is told ahead of ErrObject.
func TestAddWrong(t *testing.T) {
	x, want := ids.New(), map[int]what{3: {8, 4}, 255: {17, 1}}
	for id, w := range want {
		if e := x.Add(id, w.face, w.version); e != nil {
			t.Fatal(e)
		}
	}
	for _, id := range asked() {
		for _, face := range []int{math.MinInt, -8, -1, 0, 18, 19, 1<<32 + 8, math.MaxInt} {
			if e := x.Add(id, face, 1); !just(e, api.ErrArg) {
				t.Fatal(id, face, e)
			}
		}
		for _, version := range []int{math.MinInt, -1<<32 + 1, -1, 0} {
			if e := x.Add(id, 8, version); !just(e, api.ErrArg) {
				t.Fatal(id, version, e)
			}
		}
		if id < 2 || id > 255 || id == 3 {
			if e := x.Add(id, 9, 2); !just(e, api.ErrObject) {
				t.Error(id, e)
			}
		}
	}
	for _, w := range []what{{8, 4}, {9, 1}} {
		if e := x.Add(255, w.face, w.version); !just(e, api.ErrObject) {
			t.Error(w, e)
		}
	}
	holds(t, x, want)
}

// P6.1: what is not there is not dropped, nor is the display; nothing is changed.
func TestDropWrong(t *testing.T) {
	x := ids.New()
	if e := x.Add(7, 1, 1); e != nil {
		t.Fatal(e)
	}
	for _, id := range asked() {
		if id != 7 {
			if e := x.Drop(id); !just(e, api.ErrObject) {
				t.Error(id, e)
			}
		}
	}
	holds(t, x, map[int]what{7: {1, 1}})
}

// P6.1: what is dropped is gone; its number may come again, as something else. An object of the display's interface is not the display: it may go.
func TestDrop(t *testing.T) {
	x := ids.New()
	for id := 2; id <= api.MaxObjects; id++ {
		if e := x.Add(id, 1, 5); e != nil {
			t.Fatal(id, e)
		}
	}
	for id := 2; id <= api.MaxObjects; id++ {
		if e := x.Drop(id); e != nil {
			t.Fatal(id, e)
		}
		if e := x.Drop(id); !just(e, api.ErrObject) {
			t.Fatal(id, e)
		}
		if e := x.Want(id, 1); !just(e, api.ErrObject) {
			t.Fatal(id, e)
		}
	}
	holds(t, x, nil)
	if e := x.Add(2, 9, 3); e != nil {
		t.Error(e)
	}
	holds(t, x, map[int]what{2: {9, 3}})
}

// P6.2: after any calls, what is there is what was added and not dropped; a table that was filled otherwise answers the same.
func TestWhatIsThere(t *testing.T) {
	x, want := ids.New(), map[int]what{}
	seed := uint32(1)
	next := func(n int) int {
		seed = seed*1664525 + 1013904223
		return int(seed>>8) % n
	}
	for i := range 4000 {
		id, w := next(260)-2, what{next(19), next(6)}
		_, ok := want[id]
		if next(5) < 2 {
			wrong := api.ErrObject
			if ok {
				wrong = nil
			}
			if e := x.Drop(id); !just(e, wrong) {
				t.Fatal("drop", id, e)
			}
			delete(want, id)
			continue
		}
		var wrong error
		switch {
		case w.face < 1 || w.face > 17 || w.version < 1:
			wrong = api.ErrArg
		case id < 2 || id > 255 || ok:
			wrong = api.ErrObject
		default:
			want[id] = w
		}
		if e := x.Add(id, w.face, w.version); !just(e, wrong) {
			t.Fatal("add", id, w, e)
		}
		if i%100 == 0 {
			holds(t, x, want)
		}
	}
	y := ids.New()
	for id, w := range want {
		y.Add(id, w.face, w.version)
	}
	holds(t, x, want)
	holds(t, y, want)
}

// What is answered is new memory, spare room too: it may be changed, and added to.
func TestAnswered(t *testing.T) {
	x, want := ids.New(), map[int]what{9: {8, 1}, 4: {8, 2}, 6: {8, 3}}
	for id, w := range want {
		x.Add(id, w.face, w.version)
	}
	for _, ask := range []func() []int{x.All, func() []int { return x.Of(8) }, func() []int { return x.Of(2) }} {
		a, b := ask(), ask()
		kept := slices.Clone(b)
		for i := range a[:cap(a)] {
			a[:cap(a)][i] = -1
		}
		_ = append(a, -2)
		if !slices.Equal(b, kept) {
			t.Error("two answers share memory:", b)
		}
		holds(t, x, want)
	}
}

// Two tables have nothing in common.
func TestTwoTables(t *testing.T) {
	a, b := ids.New(), ids.New()
	a.Add(2, 8, 1)
	a.Add(3, 9, 1)
	b.Add(3, 4, 7)
	holds(t, a, map[int]what{2: {8, 1}, 3: {9, 1}})
	holds(t, b, map[int]what{3: {4, 7}})
	b.Drop(3)
	holds(t, a, map[int]what{2: {8, 1}, 3: {9, 1}})
	holds(t, b, nil)
	holds(t, ids.New(), nil)
}
