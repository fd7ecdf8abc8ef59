package uses_test

import (
	"math"
	"slices"
	"testing"

	"tableau/uses"
)

// far are numbers at the ends of what a number may be, and where parts of it end, rising.
var far = []int{math.MinInt, math.MinInt + 1, -1 << 62, -1 << 32, -1 << 31, -5, -1, 0, 1, 2, 1 << 16, 1 << 31, 1 << 32, 1<<32 + 1, 1 << 62, math.MaxInt - 1, math.MaxInt}

// now wants Now to tell these, and the others to be held behind it.
func now(t *testing.T, u *uses.Uses, held, free, is []int) {
	t.Helper()
	if l := u.Now(held); !slices.Equal(l, free) {
		t.Fatalf("Now of %v: %v, not %v", held, l, free)
	}
	if l := u.Held(); !slices.Equal(l, is) {
		t.Fatalf("held behind Now of %v: %v, not %v", held, l, is)
	}
}

// times wants a number to have been told so often.
func times(t *testing.T, u *uses.Uses, id, want int) {
	t.Helper()
	if n := u.Times(id); n != want {
		t.Fatalf("times of %d: %d, not %d", id, n, want)
	}
}

// P12.1: the document's example.
func TestExample(t *testing.T) {
	u := uses.New()
	now(t, u, []int{3, 5}, nil, []int{3, 5})
	now(t, u, []int{5}, []int{3}, []int{5})
	times(t, u, 3, 1)
	times(t, u, 5, 0)
}

// P12.1: at first nothing is held, nothing was told, and nothing is told of nothing.
func TestNew(t *testing.T) {
	u := uses.New()
	if l := u.Held(); len(l) != 0 {
		t.Error(l)
	}
	for _, id := range far {
		times(t, u, id, 0)
	}
	now(t, u, nil, nil, nil)
	now(t, u, []int{}, nil, nil)
	now(t, u, []int{0, -1, math.MinInt}, nil, nil)
	for _, id := range far {
		times(t, u, id, 0)
	}
}

// P12.1: what is held still is not told, what is held no more is told by the very next call alone; what is new is told when it goes.
func TestNow(t *testing.T) {
	u := uses.New()
	now(t, u, []int{4, 2, 8}, nil, []int{2, 4, 8})
	now(t, u, []int{8, 4, 2}, nil, []int{2, 4, 8})
	now(t, u, []int{6, 4}, []int{2, 8}, []int{4, 6})
	now(t, u, []int{4, 6}, nil, []int{4, 6})
	now(t, u, []int{1, 9}, []int{4, 6}, []int{1, 9})
	now(t, u, nil, []int{1, 9}, nil)
	now(t, u, nil, nil, nil)
	now(t, u, []int{4}, nil, []int{4})
	now(t, u, []int{}, []int{4}, nil)
	for id, want := range []int{0, 1, 1, 0, 2, 0, 1, 0, 1, 1, 0} {
		times(t, u, id, want)
	}
}

// P12.1: 0 and numbers below count for nothing, beside others and alone; they hold nothing, and are never told.
func TestNotAbove(t *testing.T) {
	u := uses.New()
	now(t, u, []int{0, 3, -3, math.MinInt, -1}, nil, []int{3})
	now(t, u, []int{-3, 0}, []int{3}, nil)
	now(t, u, []int{1, 0}, nil, []int{1})
	now(t, u, []int{-1}, []int{1}, nil)
	now(t, u, []int{0, 0}, nil, nil)
	for _, id := range []int{0, -1, -3, math.MinInt} {
		times(t, u, id, 0)
	}
	times(t, u, 3, 1)
	times(t, u, 1, 1)
}

// P12.1: a number that is there more than once counts once: one call without it is enough, and it is told once.
func TestMoreThanOnce(t *testing.T) {
	u := uses.New()
	now(t, u, []int{7, 5, 7, 7, 5}, nil, []int{5, 7})
	now(t, u, []int{7}, []int{5}, []int{7})
	now(t, u, []int{7, 7}, nil, []int{7})
	now(t, u, nil, []int{7}, nil)
	times(t, u, 5, 1)
	times(t, u, 7, 1)
}

// P12.1: numbers may be any; those above 0 are kept apart to the last bit, and rise.
func TestFar(t *testing.T) {
	u := uses.New()
	turned := slices.Clone(far)
	slices.Reverse(turned)
	above := far[slices.Index(far, 1):]
	now(t, u, turned, nil, above)
	now(t, u, []int{1 << 32, 1}, slices.DeleteFunc(slices.Clone(above), func(id int) bool { return id == 1 || id == 1<<32 }), []int{1, 1 << 32})
	now(t, u, []int{math.MinInt}, []int{1, 1 << 32}, nil)
	for _, id := range far {
		want := 0
		if id > 0 {
			want = 1
		}
		times(t, u, id, want)
	}
}

// P12.1: what is told and what is held rise, whichever order they came in.
func TestRising(t *testing.T) {
	u := uses.New()
	var l, rising []int
	for i := range 100 {
		l, rising = append(l, i*37%100+1), append(rising, i+1)
	}
	if slices.IsSorted(l) {
		t.Fatal("the test's own list rises")
	}
	now(t, u, l, nil, rising)
	now(t, u, []int{l[0]}, slices.DeleteFunc(slices.Clone(rising), func(id int) bool { return id == l[0] }), []int{l[0]})
}

// P12.1: Times counts each answer, not each call, and asking turns nothing.
func TestTimes(t *testing.T) {
	u := uses.New()
	for i := range 50 {
		times(t, u, 3, i)
		now(t, u, []int{3, 4}, nil, []int{3, 4})
		now(t, u, []int{4, 3}, nil, []int{3, 4})
		times(t, u, 3, i)
		now(t, u, []int{4}, []int{3}, []int{4})
		times(t, u, 3, i+1)
		now(t, u, []int{4}, nil, []int{4})
		times(t, u, 3, i+1)
	}
	times(t, u, 4, 0)
	times(t, u, 5, 0)
	now(t, u, []int{4}, nil, []int{4})
}

// dice are numbers that look like any, the same ones at each run.
type dice uint32

// roll is from 0 to just ahead of n.
func (d *dice) roll(n int) int {
	*d = *d*1664525 + 1013904223
	return int(*d>>8) % n
}

// rolled is a list of a few numbers, some of them twice, some of them none that counts.
func (d *dice) rolled() []int {
	var l []int
	for range d.roll(9) {
		l = append(l, d.roll(14)-3)
	}
	return l
}

// P12.1, P12.2: any lists, one after another, against what the lists themselves say; between two answers of a number it is held.
func TestAnyLists(t *testing.T) {
	u, d := uses.New(), dice(1)
	var was []int
	told := map[int]int{}
	since := map[int]int{} // how many calls held a number, since it was told
	for range 20000 {
		l := d.rolled()
		var free, is []int
		for id := 1; id <= 20; id++ {
			held := slices.Contains(l, id)
			if held {
				is = append(is, id)
			} else if slices.Contains(was, id) {
				free = append(free, id)
			}
		}
		now(t, u, l, free, is)
		for _, id := range free {
			if since[id] == 0 {
				t.Fatal(id, "is told again, and was not held")
			}
			since[id] = 0
			told[id]++
		}
		for _, id := range is {
			since[id]++
		}
		for id := -4; id <= 20; id++ {
			times(t, u, id, told[id])
		}
		was = is
	}
	if told[1] < 100 {
		t.Error("too few answers:", told)
	}
}

// A list that is handed in is neither changed nor kept.
func TestHandedIn(t *testing.T) {
	u := uses.New()
	l := append(make([]int, 0, 8), 5, 3, 5, 0, -2)
	now(t, u, l, nil, []int{3, 5})
	if !slices.Equal(l[:8], []int{5, 3, 5, 0, -2, 0, 0, 0}) {
		t.Error("changed:", l[:8])
	}
	for i := range l {
		l[i] = 9
	}
	now(t, u, []int{3}, []int{5}, []int{3})
	times(t, u, 9, 0)
}

// What is answered is new memory, spare room too, and stays as it was answered.
func TestAnswered(t *testing.T) {
	u := uses.New()
	now(t, u, []int{3, 2, 9, 4, 6}, nil, []int{2, 3, 4, 6, 9})
	a, b := u.Held(), u.Held()
	free := u.Now([]int{4, 9})
	for _, l := range [][]int{a, free} {
		for i := range l[:cap(l)] {
			l[:cap(l)][i] = 77
		}
		_ = append(l, 78)
	}
	if !slices.Equal(b, []int{2, 3, 4, 6, 9}) {
		t.Error("an answer is turned by another one, or a later call:", b)
	}
	if l := u.Held(); !slices.Equal(l, []int{4, 9}) {
		t.Error(l)
	}
	free = u.Now([]int{1})
	now(t, u, []int{2, 3}, []int{1}, []int{2, 3})
	if !slices.Equal(free, []int{4, 9}) {
		t.Error("an answer is turned by a later call:", free)
	}
	times(t, u, 77, 0)
}

// Two have nothing in common.
func TestTwo(t *testing.T) {
	a, b := uses.New(), uses.New()
	now(t, a, []int{3, 5}, nil, []int{3, 5})
	now(t, b, nil, nil, nil)
	now(t, b, []int{5}, nil, []int{5})
	now(t, a, []int{5}, []int{3}, []int{5})
	now(t, b, nil, []int{5}, nil)
	times(t, a, 3, 1)
	times(t, b, 3, 0)
	times(t, a, 5, 0)
	times(t, b, 5, 1)
	now(t, a, []int{5}, nil, []int{5})
}
