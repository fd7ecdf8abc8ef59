package stack_test

import (
	"math"
	"math/rand"
	"slices"
	"testing"

	"tableau/stack"
)

// far are numbers at the ends of what a number may be, and where parts of it end.
var far = []int{math.MinInt, -1 << 32, -1 << 31, -1, 0, 1, 1 << 31, 1 << 32, 1<<32 + 1, math.MaxInt}

// of is a stack with these raised, one behind the other.
func of(ids ...int) *stack.Stack {
	s := stack.New()
	for _, id := range ids {
		s.Raise(id)
	}
	return s
}

// holds wants these windows, from the lowest one on.
func holds(t *testing.T, s *stack.Stack, want ...int) {
	t.Helper()
	if l := s.All(); !slices.Equal(l, want) {
		t.Fatalf("all: %v, not %v", l, want)
	}
}

// top wants this one to be the uppermost one.
func top(t *testing.T, s *stack.Stack, want int) {
	t.Helper()
	if id := s.Top(); id != want {
		t.Fatalf("top of %v: %d, not %d", s.All(), id, want)
	}
}

// next wants this one to be the next of id.
func next(t *testing.T, s *stack.Stack, id, want int) {
	t.Helper()
	if n := s.Next(id); n != want {
		t.Fatalf("next of %d in %v: %d, not %d", id, s.All(), n, want)
	}
}

// P19.1: a new stack has none; to drop one from it is taken, and turns nothing.
func TestNone(t *testing.T) {
	s := stack.New()
	for range 2 {
		holds(t, s)
		top(t, s, 0)
		for _, id := range far {
			next(t, s, id, 0)
			s.Drop(id)
		}
	}
}

// P19.1: the chapter's example, and who is raised from where.
func TestRaise(t *testing.T) {
	holds(t, of(1, 2, 1), 2, 1)
	holds(t, of(1), 1)
	holds(t, of(1, 1), 1)
	holds(t, of(3, 1, 2), 3, 1, 2)
	for id, want := range map[int][]int{1: {2, 3, 1}, 2: {1, 3, 2}, 3: {1, 2, 3}, 4: {1, 2, 3, 4}} {
		s := of(1, 2, 3)
		s.Raise(id)
		holds(t, s, want...)
		top(t, s, id)
	}
}

// P19.1: who is dropped from where; one that is not there; one that comes back is new.
func TestDrop(t *testing.T) {
	for id, want := range map[int][]int{1: {2, 3}, 2: {1, 3}, 3: {1, 2}, 4: {1, 2, 3}, 0: {1, 2, 3}} {
		s := of(1, 2, 3)
		for range 2 {
			s.Drop(id)
			holds(t, s, want...)
			top(t, s, want[len(want)-1])
		}
	}
	s := of(1, 2, 3)
	s.Drop(1)
	s.Raise(1)
	holds(t, s, 2, 3, 1)
	for _, id := range []int{2, 1, 3} {
		s.Drop(id)
	}
	holds(t, s)
	top(t, s, 0)
	next(t, s, 1, 0)
	s.Raise(5)
	holds(t, s, 5)
}

// P19.1: the one below; of the lowest one, and of one that is not there, the uppermost one.
func TestNext(t *testing.T) {
	s := of(4, 7, 5)
	next(t, s, 5, 7)
	next(t, s, 7, 4)
	next(t, s, 4, 5)
	for _, id := range []int{-4, 0, 1, 3, 6, 8, math.MaxInt} {
		next(t, s, id, 5)
	}
	s.Drop(7)
	next(t, s, 7, 5)
	next(t, s, 5, 4)
	holds(t, s, 4, 5)
	alone := of(9)
	next(t, alone, 9, 9)
	next(t, alone, 8, 9)
}

// P19.1, R5: a number may be any, and 0 is a window as any other one.
func TestFar(t *testing.T) {
	s := of(far...)
	holds(t, s, far...)
	for i, id := range far {
		below := len(far) - 1
		if i > 0 {
			below = i - 1
		}
		next(t, s, id, far[below])
	}
	for i, id := range far {
		top(t, s, far[len(far)-1])
		s.Drop(id)
		holds(t, s, far[i+1:]...)
	}
	zero := of(3, 0)
	top(t, zero, 0)
	next(t, zero, 0, 3)
	next(t, zero, 3, 0)
	zero.Drop(0)
	holds(t, zero, 3)
}

// model is when each was raised the last time: who was so later is above. It has no order of its own.
type model map[int]int

func (m model) all() []int {
	var l []int
	for id := range m {
		l = append(l, id)
	}
	slices.SortFunc(l, func(a, b int) int { return m[a] - m[b] })
	return l
}

// top is who was raised last.
func (m model) top() int { return m.next(math.MinInt) }

// next is who was raised last of those that were ahead of id; or of all.
func (m model) next(id int) int {
	below, last := 0, 0
	when, there := m[id]
	for one, at := range m {
		if there && at < when && (below == 0 || at > m[below]) {
			below = one
		}
		if last == 0 || at > m[last] {
			last = one
		}
	}
	if below != 0 {
		return below
	}
	return last
}

// once tells whether none is there a second time.
func once(l []int) bool {
	slices.Sort(l)
	return len(slices.Compact(l)) == len(l)
}

// same wants a stack to answer what the model does, of all numbers from -1 to most.
func same(t *testing.T, s *stack.Stack, m model, most int) {
	t.Helper()
	holds(t, s, m.all()...)
	top(t, s, m.top())
	for id := -1; id <= most; id++ {
		next(t, s, id, m.next(id))
	}
	if !once(s.All()) {
		t.Fatal("not once:", s.All())
	}
}

// do raises or drops one of both.
func do(s *stack.Stack, m model, at, id int, raise bool) {
	if raise {
		s.Raise(id)
		m[id] = at
		return
	}
	s.Drop(id)
	delete(m, id)
}

// P19.1, P19.2: all ways to raise and drop three windows in up to six steps.
func TestAllShort(t *testing.T) {
	for size := range 7 {
		ways := 1
		for range size {
			ways *= 6
		}
		for n := range ways {
			s, m := stack.New(), model{}
			for at := range size {
				do(s, m, at, n%6/2+1, n%2 == 0)
				n /= 6
			}
			same(t, s, m, 4)
		}
	}
}

// P19.1, P19.2: any steps with more windows.
func TestAny(t *testing.T) {
	r := rand.New(rand.NewSource(19))
	for range 100 {
		s, m := stack.New(), model{}
		for at := range 200 {
			do(s, m, at, r.Intn(12)+1, r.Intn(3) > 0)
			same(t, s, m, 13)
		}
	}
}

// R3: what All answers is new memory, spare room too: neither the stack nor another answer is turned by it, nor it by the stack.
func TestMemory(t *testing.T) {
	s := of(1, 2, 3, 4, 5)
	s.Drop(5)
	got, again := s.All(), s.All()
	for i := range got[:cap(got)] {
		got[:cap(got)][i] = 77
	}
	if !slices.Equal(again, []int{1, 2, 3, 4}) {
		t.Error("two answers share memory:", again)
	}
	holds(t, s, 1, 2, 3, 4)
	s.Raise(6)
	s.Raise(1)
	s.Drop(3)
	holds(t, s, 2, 4, 6, 1)
	if !slices.Equal(again, []int{1, 2, 3, 4}) {
		t.Error("the stack turned an answer:", again)
	}
}

// R4: to ask turns nothing, and two stacks have nothing in common.
func TestApart(t *testing.T) {
	a, b := of(1, 2, 3), of(3)
	for range 3 {
		holds(t, a, 1, 2, 3)
		top(t, a, 3)
		next(t, a, 3, 2)
		next(t, a, 9, 3)
	}
	b.Raise(2)
	b.Drop(3)
	holds(t, a, 1, 2, 3)
	a.Drop(2)
	holds(t, b, 2)
	holds(t, stack.New())
}
