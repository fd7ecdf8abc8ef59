package pool_test

import (
	"errors"
	"math"
	"math/big"
	"slices"
	"testing"

	"tableau/api"
	"tableau/pool"
)

// known are all errors there are: an answer must be just one of them.
var known = []error{
	api.ErrArg, api.ErrShort, api.ErrBytes, api.ErrBig, api.ErrObject, api.ErrMethod, api.ErrFormat, api.ErrStride,
	api.ErrFile, api.ErrRole, api.ErrPlace, api.ErrState, api.ErrSerial, api.ErrFull, api.ErrGone, api.ErrSheet,
}

// just tells whether e is want, with its text, and none of the others.
func just(e, want error) bool {
	for _, k := range known {
		if errors.Is(e, k) != (k == want) {
			return false
		}
	}
	if want == nil {
		return e == nil
	}
	return e.Error() == want.Error()
}

// most is the greatest size of a pool, spelt without the package.
const most = 65536

// far are numbers at the ends of what a number may be, and where parts of it end.
var far = []int{math.MinInt, math.MinInt + 1, -1 << 62, -1 << 32, -1 << 31, -5, -1, 0, 1, 2, 4, 1 << 16, 1 << 31, 1 << 32, 1<<61 - 1, 1 << 61, 1 << 62, math.MaxInt - 1, math.MaxInt}

// room is what Room is to answer, in numbers of any length.
func room(size, offset, w, h, stride, format int) error {
	if format != 0 && format != 1 {
		return api.ErrFormat
	}
	row := new(big.Int).Mul(big.NewInt(4), big.NewInt(int64(w)))
	end := new(big.Int).Mul(big.NewInt(int64(stride)), big.NewInt(int64(h)))
	end.Add(end, big.NewInt(int64(offset)))
	if w < 1 || h < 1 || offset < 0 || big.NewInt(int64(stride)).Cmp(row) < 0 || end.Cmp(big.NewInt(int64(size))) > 0 {
		return api.ErrStride
	}
	return nil
}

// fits wants the right answer of Room.
func fits(t *testing.T, size, offset, w, h, stride, format int) {
	t.Helper()
	want := room(size, offset, w, h, stride, format)
	if e := pool.Room(size, offset, w, h, stride, format); !just(e, want) {
		t.Fatalf("%d, %d, %d, %d, %d, %d: %v, not %v", size, offset, w, h, stride, format, e, want)
	}
}

// P11.1: the document's examples, and each condition on its own, one apart from what may be.
func TestRoom(t *testing.T) {
	for _, x := range []struct {
		n    [6]int
		want error
	}{
		{[6]int{100, 0, 5, 5, 20, 0}, nil},
		{[6]int{99, 0, 5, 5, 20, 0}, api.ErrStride},
		{[6]int{100, 0, 5, 5, 20, 1}, nil},
		{[6]int{100, 0, 5, 5, 20, 2}, api.ErrFormat},
		{[6]int{100, 0, 5, 5, 20, -1}, api.ErrFormat},
		{[6]int{100, 0, 5, 5, 20, 1 << 32}, api.ErrFormat},
		{[6]int{100, 0, 5, 5, 20, math.MinInt}, api.ErrFormat},
		{[6]int{0, -1, 0, 0, 0, 2}, api.ErrFormat},
		{[6]int{100, 0, 0, 5, 20, 0}, api.ErrStride},
		{[6]int{100, 0, -5, 5, 20, 0}, api.ErrStride},
		{[6]int{100, 0, 5, 0, 20, 0}, api.ErrStride},
		{[6]int{100, 0, 5, -5, 20, 0}, api.ErrStride},
		{[6]int{100, -1, 5, 5, 20, 0}, api.ErrStride},
		{[6]int{100, 0, 5, 5, 19, 0}, api.ErrStride},
		{[6]int{100, 0, 4, 5, 19, 0}, nil},
		{[6]int{100, 0, 5, 4, 25, 0}, nil},
		{[6]int{100, 0, 5, 4, 26, 0}, api.ErrStride},
		{[6]int{100, 3, 5, 4, 24, 0}, nil},
		{[6]int{100, 4, 5, 4, 24, 0}, nil},
		{[6]int{100, 5, 5, 4, 24, 0}, api.ErrStride},
		{[6]int{4, 0, 1, 1, 4, 1}, nil},
		{[6]int{4, 1, 1, 1, 4, 1}, api.ErrStride},
		{[6]int{4, 4, 1, 1, 4, 1}, api.ErrStride},
		{[6]int{math.MaxInt, 0, 1, 1 << 61, 4, 0}, api.ErrStride},
		{[6]int{math.MaxInt, 3, 1, 1<<61 - 1, 4, 0}, nil},
		{[6]int{math.MaxInt, 4, 1, 1<<61 - 1, 4, 0}, api.ErrStride},
		{[6]int{math.MaxInt, math.MaxInt - 4, 1, 1, 4, 0}, nil},
		{[6]int{math.MaxInt, math.MaxInt - 3, 1, 1, 4, 0}, api.ErrStride},
		{[6]int{100, 0, 1 << 62, 1, 4, 0}, api.ErrStride}, // four times it is 0, gone round
		{[6]int{100, 0, 1, 1 << 62, 4, 0}, api.ErrStride},
		{[6]int{math.MinInt, math.MaxInt, 1, 1, 4, 0}, api.ErrStride},
	} {
		n := x.n
		if e := pool.Room(n[0], n[1], n[2], n[3], n[4], n[5]); !just(e, x.want) {
			t.Errorf("%v: %v, not %v", n, e, x.want)
		}
		if !just(room(n[0], n[1], n[2], n[3], n[4], n[5]), x.want) {
			t.Errorf("%v: the test's own count is wrong", n)
		}
	}
}

// P11.1: all small numbers.
func TestRoomNear(t *testing.T) {
	for size := -1; size <= 30; size++ {
		for offset := -1; offset <= 10; offset++ {
			for w := -1; w <= 3; w++ {
				for h := -1; h <= 4; h++ {
					for stride := -1; stride <= 14; stride++ {
						fits(t, size, offset, w, h, stride, h&1)
					}
				}
			}
		}
	}
}

// P11.1: numbers at the ends: none of them goes round.
func TestRoomFar(t *testing.T) {
	for _, size := range far {
		for _, offset := range far {
			for _, w := range []int{math.MinInt, -1, 0, 1, 1<<60 + 1, 1 << 61, 1 << 62, 1<<62 + 1, math.MaxInt / 4, math.MaxInt/4 + 1, math.MaxInt} {
				for _, h := range far {
					for _, stride := range far {
						fits(t, size, offset, w, h, stride, 1)
					}
				}
			}
		}
	}
	for _, format := range far {
		fits(t, 100, 0, 5, 5, 20, format)
		fits(t, 99, 0, 5, 5, 20, format)
	}
}

// may wants calls to answer nil.
func may(t *testing.T, errs ...error) {
	t.Helper()
	for i, e := range errs {
		if e != nil {
			t.Fatalf("%d: %v", i, e)
		}
	}
}

// wrong wants a call to answer just that error.
func wrong(t *testing.T, e, want error) {
	t.Helper()
	if !just(e, want) {
		t.Fatalf("%v, not %v", e, want)
	}
}

// size wants a pool of that many bytes.
func size(t *testing.T, s *pool.Store, id, n int) {
	t.Helper()
	if is := s.Size(id); is != n {
		t.Fatalf("%d: size %d, not %d", id, is, n)
	}
}

// is wants a buffer to be this, and Live or not.
func is(t *testing.T, s *pool.Store, id int, want pool.Info, live bool) {
	t.Helper()
	if x, ok := s.Info(id); x != want || !ok || s.Live(id) != live {
		t.Fatalf("%d: %v %v, live %v", id, x, ok, s.Live(id))
	}
	if !slices.Contains(s.All(), id) {
		t.Fatalf("%d: not in %v", id, s.All())
	}
}

// none wants no such buffer.
func none(t *testing.T, s *pool.Store, id int) {
	t.Helper()
	if x, ok := s.Info(id); x != (pool.Info{}) || ok || s.Live(id) {
		t.Fatalf("%d: %v %v, live %v", id, x, ok, s.Live(id))
	}
	if slices.Contains(s.All(), id) {
		t.Fatalf("%d: in %v", id, s.All())
	}
}

// P11.2, P11.3: at first there is nothing, of whatever number.
func TestNew(t *testing.T) {
	s := pool.New()
	for _, id := range far {
		size(t, s, id, -1)
		none(t, s, id)
		wrong(t, s.DropPool(id), api.ErrObject)
		wrong(t, s.Resize(id, 1, 1), api.ErrObject)
		wrong(t, s.Buffer(1, id, 0, 1, 1, 4, 0), api.ErrObject)
		wrong(t, s.DropBuffer(id), api.ErrObject)
		s.Forget(id)
		size(t, s, id, -1)
		none(t, s, id)
	}
	if l := s.All(); len(l) != 0 {
		t.Error(l)
	}
}

// P11.2: a pool's number and key may be any; its size is from 1 to MaxPool, and its memory has that.
func TestPool(t *testing.T) {
	if api.MaxPool != most {
		t.Fatal(api.MaxPool)
	}
	s := pool.New()
	for i, id := range far {
		may(t, s.Pool(id, far[len(far)-1-i], 8+i, 8+i))
	}
	for i, id := range far {
		size(t, s, id, 8+i)
		may(t, s.Buffer(id, id, 0, 1, 1, 4, 0))
		is(t, s, id, pool.Info{Key: far[len(far)-1-i], W: 1, H: 1, Stride: 4}, true)
	}
	for _, x := range []struct {
		size, memory int
		want         error
	}{
		{1, 1, nil}, {1, 2, nil}, {1, math.MaxInt, nil}, {most, most, nil}, {most, most + 1, nil}, {most - 1, most, nil},
		{0, 0, api.ErrStride}, {0, -1, api.ErrStride}, {-1, most, api.ErrStride}, {-1, -2, api.ErrStride}, {math.MinInt, math.MaxInt, api.ErrStride},
		{most + 1, most, api.ErrStride}, {most + 1, most + 1, api.ErrStride}, {math.MaxInt, math.MaxInt, api.ErrStride}, {1<<32 + 1, 1 << 33, api.ErrStride},
		{1, 0, api.ErrFile}, {1, -1, api.ErrFile}, {most, most - 1, api.ErrFile}, {most, math.MinInt, api.ErrFile}, {100, 99, api.ErrFile},
	} {
		s := pool.New()
		wrong(t, s.Pool(3, 5, x.size, x.memory), x.want)
		if x.want == nil {
			size(t, s, 3, x.size)
			continue
		}
		size(t, s, 3, -1)
		wrong(t, s.DropPool(3), api.ErrObject)
	}
}

// P11.2: a number that is taken is told ahead of a size and a memory that may not be; the pool stays as it is, its key too.
func TestPoolTaken(t *testing.T) {
	s := pool.New()
	may(t, s.Pool(1, 7, 10, 10))
	for _, n := range []int{-1, 0, 1, 10, 11, most, most + 1} {
		for _, memory := range []int{-1, 0, 10, most} {
			wrong(t, s.Pool(1, 8, n, memory), api.ErrObject)
			size(t, s, 1, 10)
		}
	}
	may(t, s.Buffer(2, 1, 0, 1, 1, 4, 0))
	is(t, s, 2, pool.Info{Key: 7, W: 1, H: 1, Stride: 4}, true)
	may(t, s.Pool(2, 8, 10, 10)) // a buffer's number may be a pool's too
}

// P11.2: a pool grows, or stays; what is refused has changed nothing.
func TestResize(t *testing.T) {
	for _, x := range []struct {
		size, memory int
		want         error
	}{
		{100, 100, nil}, {100, math.MaxInt, nil}, {101, 101, nil}, {most, most, nil},
		{99, 100, api.ErrStride}, {1, 100, api.ErrStride}, {0, 100, api.ErrStride}, {-1, -2, api.ErrStride}, {math.MinInt, math.MinInt, api.ErrStride},
		{most + 1, most + 1, api.ErrStride}, {math.MaxInt, math.MaxInt, api.ErrStride}, {most + 1, 1, api.ErrStride},
		{101, 100, api.ErrFile}, {100, 99, api.ErrFile}, {100, -1, api.ErrFile}, {most, most - 1, api.ErrFile}, {most, math.MinInt, api.ErrFile},
	} {
		s := pool.New()
		may(t, s.Pool(1, 7, 100, 100), s.Pool(2, 8, 50, 50))
		wrong(t, s.Resize(1, x.size, x.memory), x.want)
		wrong(t, s.Resize(3, x.size, x.memory), api.ErrObject)
		size(t, s, 3, -1)
		size(t, s, 2, 50)
		has := 100
		if x.want == nil {
			has = x.size
		}
		size(t, s, 1, has)
		wrong(t, s.Resize(1, has-1, most), api.ErrStride)
		wrong(t, s.Buffer(4, 1, has-3, 1, 1, 4, 0), api.ErrStride)
		may(t, s.Buffer(4, 1, has-4, 1, 1, 4, 0))
		is(t, s, 4, pool.Info{Key: 7, Offset: has - 4, W: 1, H: 1, Stride: 4}, true)
	}
}

// P11.2: a pool that is dropped is gone; its buffers stay, with its key, though another pool takes its number.
func TestDropPool(t *testing.T) {
	s := pool.New()
	may(t, s.Pool(1, 7, 100, 100), s.Pool(2, 8, 100, 100))
	may(t, s.Buffer(5, 1, 0, 5, 5, 20, 0), s.Buffer(6, 1, 3, 2, 4, 9, 1), s.DropBuffer(6))
	wrong(t, s.DropPool(3), api.ErrObject)
	may(t, s.DropPool(1))
	size(t, s, 1, -1)
	size(t, s, 2, 100)
	wrong(t, s.DropPool(1), api.ErrObject)
	wrong(t, s.Resize(1, 100, 100), api.ErrObject)
	wrong(t, s.Buffer(9, 1, 0, 1, 1, 4, 0), api.ErrObject)
	none(t, s, 9)
	five, six := pool.Info{Key: 7, W: 5, H: 5, Stride: 20}, pool.Info{Key: 7, Offset: 3, W: 2, H: 4, Stride: 9, Format: 1}
	is(t, s, 5, five, true)
	is(t, s, 6, six, false)
	may(t, s.Pool(1, 9, 4, 4))
	size(t, s, 1, 4)
	is(t, s, 5, five, true)
	is(t, s, 6, six, false)
	wrong(t, s.Buffer(7, 1, 0, 5, 5, 20, 0), api.ErrStride)
	may(t, s.Buffer(7, 1, 0, 1, 1, 4, 0))
	is(t, s, 7, pool.Info{Key: 9, W: 1, H: 1, Stride: 4}, true)
	may(t, s.DropBuffer(5))
	is(t, s, 5, five, false)
}

// P11.3: what a buffer is told to be is what it was made of; its pool's size counts, whichever numbers are its own.
func TestBuffer(t *testing.T) {
	s := pool.New()
	may(t, s.Pool(1, 7, 100, 200), s.Pool(2, 8, 200, 200))
	may(t, s.Buffer(10, 1, 2, 3, 7, 13, 1))
	is(t, s, 10, pool.Info{Key: 7, Offset: 2, W: 3, H: 7, Stride: 13, Format: 1}, true)
	wrong(t, s.Buffer(11, 1, 0, 5, 6, 20, 0), api.ErrStride)
	may(t, s.Buffer(11, 2, 0, 5, 6, 20, 0))
	is(t, s, 11, pool.Info{Key: 8, W: 5, H: 6, Stride: 20}, true)
	may(t, s.Resize(1, 120, 200), s.Buffer(12, 1, 0, 5, 6, 20, 0))
	may(t, s.Buffer(1, 1, 0, 5, 6, 20, 0), s.Buffer(2, 1, 0, 5, 6, 20, 0)) // the pools' numbers are buffers' too
	is(t, s, 10, pool.Info{Key: 7, Offset: 2, W: 3, H: 7, Stride: 13, Format: 1}, true)
	if l := s.All(); !slices.Equal(l, []int{1, 2, 10, 11, 12}) {
		t.Error(l)
	}
	may(t, s.DropBuffer(1))
	size(t, s, 1, 120)
	s.Forget(2)
	size(t, s, 2, 200)
}

// P11.3: a pool that is not there, and a number that is taken, are told ahead of what has no room; that ahead of nothing else.
func TestBufferWrong(t *testing.T) {
	s := pool.New()
	may(t, s.Pool(1, 7, 100, 100), s.Buffer(5, 1, 0, 5, 5, 20, 0), s.Buffer(6, 1, 0, 5, 5, 20, 1), s.DropBuffer(6))
	for _, format := range []int{-1, 0, 2} {
		for _, stride := range []int{20, 19, 21} {
			for _, id := range []int{5, 6} {
				wrong(t, s.Buffer(id, 1, 0, 5, 5, stride, format), api.ErrObject)
				wrong(t, s.Buffer(id, 2, 0, 5, 5, stride, format), api.ErrObject)
			}
			wrong(t, s.Buffer(7, 2, 0, 5, 5, stride, format), api.ErrObject)
			if want := room(100, 0, 5, 5, stride, format); want != nil {
				wrong(t, s.Buffer(7, 1, 0, 5, 5, stride, format), want)
			}
		}
	}
	for _, n := range far {
		if n != 0 && n != 1 {
			wrong(t, s.Buffer(7, 1, 0, 5, 5, 20, n), api.ErrFormat)
			wrong(t, s.Buffer(7, 1, n, 5, 5, 20, 0), room(100, n, 5, 5, 20, 0))
			wrong(t, s.Buffer(7, 1, 0, 26, n, 20, 0), api.ErrStride)
		}
	}
	none(t, s, 7)
	is(t, s, 5, pool.Info{Key: 7, W: 5, H: 5, Stride: 20}, true)
	is(t, s, 6, pool.Info{Key: 7, W: 5, H: 5, Stride: 20, Format: 1}, false)
}

// P11.3: one that is dropped is told still, and its number is taken; one that is forgotten is not there at all.
func TestDropBuffer(t *testing.T) {
	s := pool.New()
	may(t, s.Pool(1, 7, 100, 100), s.Buffer(5, 1, 0, 5, 5, 20, 1), s.Buffer(6, 1, 4, 1, 1, 4, 0))
	five := pool.Info{Key: 7, W: 5, H: 5, Stride: 20, Format: 1}
	may(t, s.DropBuffer(5))
	is(t, s, 5, five, false)
	wrong(t, s.DropBuffer(5), api.ErrObject)
	is(t, s, 5, five, false)
	wrong(t, s.Buffer(5, 1, 4, 1, 1, 4, 0), api.ErrObject)
	is(t, s, 5, five, false)
	wrong(t, s.DropBuffer(9), api.ErrObject)
	none(t, s, 9)
	s.Forget(5)
	none(t, s, 5)
	wrong(t, s.DropBuffer(5), api.ErrObject)
	s.Forget(5)
	none(t, s, 5)
	may(t, s.Buffer(5, 1, 8, 2, 1, 8, 0))
	is(t, s, 5, pool.Info{Key: 7, Offset: 8, W: 2, H: 1, Stride: 8}, true)
	s.Forget(6) // one that is Live
	none(t, s, 6)
	s.Forget(1) // the pool's number: no buffer's
	size(t, s, 1, 100)
	if l := s.All(); !slices.Equal(l, []int{5}) {
		t.Error(l)
	}
}

// P11.3: the numbers rise, whichever order they came in, those of dropped ones among them.
func TestAll(t *testing.T) {
	s := pool.New()
	may(t, s.Pool(1, 7, 100, 100))
	want := []int{}
	for i := range 60 {
		id := i*37%61 - 20
		may(t, s.Buffer(id, 1, 0, 1, 1, 4, 0))
		if i%3 == 0 {
			may(t, s.DropBuffer(id))
		}
		want = append(want, id)
		slices.Sort(want)
		if l := s.All(); !slices.Equal(l, want) {
			t.Fatal(l)
		}
	}
	for _, id := range far {
		s.Forget(id)
		may(t, s.Buffer(id, 1, 0, 1, 1, 4, 0))
	}
	if l := s.All(); !slices.IsSorted(l) || l[0] != math.MinInt || l[len(l)-1] != math.MaxInt {
		t.Error(l)
	}
}

// dice are numbers that look like any, the same ones at each run.
type dice uint32

// roll is from 0 to just ahead of n.
func (d *dice) roll(n int) int {
	*d = *d*1664525 + 1013904223
	return int(*d>>8) % n
}

// entry is a pool or a buffer in the test's book.
type entry struct {
	id, key, size int
	info          pool.Info
	live          bool
}

// book is what there is to be, in lists that are looked through.
type book struct {
	pools, buffers []entry
}

// find is where a number stands in a list; -1: nowhere.
func find(l []entry, id int) int {
	return slices.IndexFunc(l, func(e entry) bool { return e.id == id })
}

// sized is what Pool and Resize are to answer of a size.
func sized(n, least, memory int) error {
	switch {
	case n < least || n > most:
		return api.ErrStride
	case memory < n:
		return api.ErrFile
	}
	return nil
}

// pool is a pool more in the book, or what is wrong.
func (b *book) pool(id, key, n, memory int) error {
	if find(b.pools, id) >= 0 {
		return api.ErrObject
	}
	if e := sized(n, 1, memory); e != nil {
		return e
	}
	b.pools = append(b.pools, entry{id: id, key: key, size: n})
	return nil
}

// resize is a pool of another size in the book, or what is wrong.
func (b *book) resize(id, n, memory int) error {
	i := find(b.pools, id)
	if i < 0 {
		return api.ErrObject
	}
	e := sized(n, b.pools[i].size, memory)
	if e == nil {
		b.pools[i].size = n
	}
	return e
}

// buffer is a buffer more in the book, or what is wrong.
func (b *book) buffer(id, from, offset, w, h, stride, format int) error {
	i := find(b.pools, from)
	if i < 0 || find(b.buffers, id) >= 0 {
		return api.ErrObject
	}
	if e := room(b.pools[i].size, offset, w, h, stride, format); e != nil {
		return e
	}
	b.buffers = append(b.buffers, entry{id: id, live: true, info: pool.Info{Key: b.pools[i].key, Offset: offset, W: w, H: h, Stride: stride, Format: format}})
	return nil
}

// dropPool is a pool less in the book, or what is wrong.
func (b *book) dropPool(id int) error {
	i := find(b.pools, id)
	if i < 0 {
		return api.ErrObject
	}
	b.pools = slices.Delete(b.pools, i, i+1)
	return nil
}

// dropBuffer is a buffer that is Live no more in the book, or what is wrong.
func (b *book) dropBuffer(id int) error {
	i := find(b.buffers, id)
	if i < 0 || !b.buffers[i].live {
		return api.ErrObject
	}
	b.buffers[i].live = false
	return nil
}

// forget is a buffer less in the book.
func (b *book) forget(id int) {
	b.buffers = slices.DeleteFunc(b.buffers, func(e entry) bool { return e.id == id })
}

// agree wants the store to tell just what the book does.
func (b *book) agree(t *testing.T, s *pool.Store) {
	t.Helper()
	var all []int
	for id := -1; id <= 6; id++ {
		n := -1
		if i := find(b.pools, id); i >= 0 {
			n = b.pools[i].size
		}
		size(t, s, id, n)
		if i := find(b.buffers, id); i >= 0 {
			all = append(all, id)
			is(t, s, id, b.buffers[i].info, b.buffers[i].live)
		} else {
			none(t, s, id)
		}
	}
	if l := s.All(); !slices.Equal(l, all) {
		t.Fatal(l, all)
	}
}

// P11.2, P11.3: any calls, one after another, against a book that the test keeps.
func TestAnyCalls(t *testing.T) {
	s, b, d := pool.New(), book{}, dice(1)
	made := 0
	for range 20000 {
		id, from, n, memory := d.roll(7)-1, d.roll(7)-1, d.roll(40)-1, d.roll(45)-2
		switch d.roll(8) {
		case 0:
			wrong(t, s.Pool(id, from, n, memory), b.pool(id, from, n, memory))
		case 1:
			wrong(t, s.Resize(id, n, memory), b.resize(id, n, memory))
		case 2:
			wrong(t, s.DropPool(id), b.dropPool(id))
		case 3:
			wrong(t, s.DropBuffer(id), b.dropBuffer(id))
		case 4:
			s.Forget(id)
			b.forget(id)
		default:
			offset, w, h, stride, format := d.roll(9)-1, d.roll(4), d.roll(4), d.roll(12)+3, d.roll(12)/5
			was := len(b.buffers)
			want := b.buffer(id, from, offset, w, h, stride, format)
			wrong(t, s.Buffer(id, from, offset, w, h, stride, format), want)
			made += len(b.buffers) - was
		}
		b.agree(t, s)
	}
	if made < 100 {
		t.Error("too few buffers were made:", made)
	}
}

// What All answers is new memory, spare room too, and stays as it was answered.
func TestAnswered(t *testing.T) {
	s := pool.New()
	may(t, s.Pool(1, 7, 100, 100), s.Buffer(3, 1, 0, 1, 1, 4, 0), s.Buffer(2, 1, 0, 1, 1, 4, 0), s.Buffer(9, 1, 0, 1, 1, 4, 0))
	a, b := s.All(), s.All()
	for i := range a[:cap(a)] {
		a[:cap(a)][i] = 77
	}
	_ = append(a, 78)
	if !slices.Equal(b, []int{2, 3, 9}) || !slices.Equal(s.All(), b) {
		t.Error(b, s.All())
	}
	s.Forget(2)
	may(t, s.Buffer(4, 1, 0, 1, 1, 4, 0))
	if !slices.Equal(b, []int{2, 3, 9}) {
		t.Error("an answer is turned by later calls:", b)
	}
}

// Two stores have nothing in common.
func TestTwo(t *testing.T) {
	a, b := pool.New(), pool.New()
	may(t, a.Pool(1, 7, 100, 100), a.Buffer(5, 1, 0, 1, 1, 4, 0))
	size(t, b, 1, -1)
	none(t, b, 5)
	may(t, b.Pool(1, 8, 50, 50), b.Buffer(5, 1, 4, 1, 1, 4, 1))
	may(t, b.DropBuffer(5), b.DropPool(1))
	size(t, a, 1, 100)
	is(t, a, 5, pool.Info{Key: 7, W: 1, H: 1, Stride: 4}, true)
	a.Forget(5)
	is(t, b, 5, pool.Info{Key: 8, Offset: 4, W: 1, H: 1, Stride: 4, Format: 1}, false)
	none(t, pool.New(), 5)
}
