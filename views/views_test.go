package views_test

import (
	"math"
	"math/rand"
	"reflect"
	"slices"
	"testing"

	"tableau/api"
	"tableau/forest"
	"tableau/seat"
	"tableau/views"
)

type (
	roots = []api.Child
	sizes = []views.Size
	rects = []api.Rect
)

// edge is how far a root may be, spelt without the package.
const edge = 16777216

// far are numbers at the ends of what a number may be, and where parts of it end.
var far = []int{math.MinInt, math.MinInt + 1, -1 << 32, -1 << 31, -edge - 1, -edge, 1 - edge, -1, 0, 1, edge - 1, edge, edge + 1, 1 << 31, 1 << 32, 1<<32 + 1, math.MaxInt - 1, math.MaxInt}

// may wants calls to answer nil.
func may(t *testing.T, errs ...error) {
	t.Helper()
	for i, e := range errs {
		if e != nil {
			t.Fatalf("%d: %v", i, e)
		}
	}
}

// made is a forest of the surfaces 1 to n, each with the buffer ten times its number.
func made(t *testing.T, n int) *forest.Forest {
	t.Helper()
	f := forest.New()
	for id := 1; id <= n; id++ {
		may(t, f.Add(id), f.Attach(id, 10*id))
		commit(t, f, id)
	}
	return f
}

// commit commits surfaces, one after the other.
func commit(t *testing.T, f *forest.Forest, ids ...int) {
	t.Helper()
	for _, id := range ids {
		_, err := f.Commit(id)
		may(t, err)
	}
}

// inOne is a forest of 1, in it 2 at 3, 4 and in that 3 at 5, -6; and 4, alone.
func inOne(t *testing.T) *forest.Forest {
	t.Helper()
	f := made(t, 4)
	may(t, f.Sub(2, 1), f.Position(2, 3, 4), f.Sub(3, 2), f.Position(3, 5, -6))
	commit(t, f, 2, 1)
	return f
}

// view is a view of a surface that made made, with a buffer that no one says the size of.
func view(id, x, y int) api.View { return api.View{Surface: id, Buffer: 10 * id, X: x, Y: y} }

// sees wants these views.
func sees(t *testing.T, got []api.View, want ...api.View) {
	t.Helper()
	if !slices.Equal(got, want) {
		t.Fatalf("sees %+v, not %+v", got, want)
	}
}

// hits wants these hits; nil and an empty region are one.
func hits(t *testing.T, got []seat.Hit, want ...seat.Hit) {
	t.Helper()
	same := func(a, b seat.Hit) bool {
		return a.Surface == b.Surface && a.X == b.X && a.Y == b.Y && a.W == b.W && a.H == b.H && a.All == b.All && slices.Equal(a.Region, b.Region)
	}
	if !slices.EqualFunc(got, want, same) {
		t.Fatalf("hits %+v, not %+v", got, want)
	}
}

// root wants these surfaces to be in that one.
func root(t *testing.T, f *forest.Forest, want int, ids ...int) {
	t.Helper()
	for _, id := range ids {
		if got := views.Root(f, id); got != want {
			t.Fatalf("root of %d: %d, not %d", id, got, want)
		}
	}
}

// found wants a surface's view to be that one, or to be none, if that is the zero one.
func found(t *testing.T, l []api.View, surface int, want api.View, is bool) {
	t.Helper()
	if got, ok := views.Find(l, surface); got != want || ok != is {
		t.Fatalf("view of %d: %+v, %v, not %+v, %v", surface, got, ok, want, is)
	}
}

// P22.1: the chapter's example.
func TestExample(t *testing.T) {
	sees(t, views.Of(made(t, 1), roots{{ID: 1, X: 5, Y: 5}}, sizes{{Buffer: 10, W: 2, H: 3}}), api.View{Surface: 1, Buffer: 10, X: 5, Y: 5, W: 2, H: 3})
}

// P22.1: root by root, as they come, each with its tree, moved by its place; a root that comes twice is seen twice.
func TestOf(t *testing.T) {
	f := inOne(t)
	sees(t, views.Of(f, roots{{ID: 4, X: 1}, {ID: 1, X: 100, Y: -200}}, nil), view(4, 1, 0), view(1, 100, -200), view(2, 103, -196), view(3, 108, -202))
	sees(t, views.Of(f, roots{{ID: 1}, {ID: 4, Y: 7}}, nil), view(1, 0, 0), view(2, 3, 4), view(3, 8, -2), view(4, 0, 7))
	sees(t, views.Of(f, roots{{ID: 4}, {ID: 4, X: 9}, {ID: 4}}, nil), view(4, 0, 0), view(4, 9, 0), view(4, 0, 0))
	may(t, f.Below(2, 1))
	commit(t, f, 1)
	sees(t, views.Of(f, roots{{ID: 1, Y: 1}}, nil), view(2, 3, 5), view(3, 8, -1), view(1, 0, 1))
}

// P22.1: a root need not be one that has no parent: it is where it is put, not where it is in its parent.
func TestOfChild(t *testing.T) {
	f := inOne(t)
	sees(t, views.Of(f, roots{{ID: 2, X: 50, Y: 60}, {ID: 3}}, nil), view(2, 50, 60), view(3, 55, 54), view(3, 0, 0))
}

// P22.1: who is not there, or has no buffer, is not seen, and nothing that is in it.
func TestOfNone(t *testing.T) {
	f := inOne(t)
	sees(t, views.Of(f, nil, sizes{{Buffer: 10, W: 1, H: 1}}))
	sees(t, views.Of(forest.New(), roots{{ID: 1}, {}}, nil))
	for _, id := range far {
		if id != 1 {
			sees(t, views.Of(f, roots{{ID: id, X: 1}, {ID: 4}}, nil), view(4, 0, 0))
		}
	}
	may(t, f.Attach(2, 0))
	commit(t, f, 2, 1)
	sees(t, views.Of(f, roots{{ID: 2}, {ID: 1}}, sizes{{Buffer: 0, W: 9, H: 9}}), view(1, 0, 0))
	may(t, f.Attach(1, 0))
	commit(t, f, 1)
	sees(t, views.Of(f, roots{{ID: 1}, {ID: 3}}, nil), view(3, 0, 0))
	may(t, f.Drop(3))
	sees(t, views.Of(f, roots{{ID: 3}}, nil))
}

// P22.1: the size is the first one of that buffer, whatever it is, and 0, 0 of a buffer that is not there; surfaces may have one buffer.
func TestSizes(t *testing.T) {
	f := made(t, 3)
	may(t, f.Attach(3, 10))
	commit(t, f, 3)
	all := roots{{ID: 1}, {ID: 2}, {ID: 3}}
	with := func(w, h int, of ...int) []api.View {
		l := []api.View{view(1, 0, 0), view(2, 0, 0), {Surface: 3, Buffer: 10}}
		for _, i := range of {
			l[i].W, l[i].H = w, h
		}
		return l
	}
	sees(t, views.Of(f, all, nil), with(0, 0)...)
	sees(t, views.Of(f, all, sizes{{Buffer: 1, W: 5, H: 5}, {Buffer: 3, W: 5, H: 5}}), with(0, 0)...)
	sees(t, views.Of(f, all, sizes{{W: 5, H: 5}, {Buffer: 20, W: 6, H: 7}, {Buffer: 20, W: 8, H: 9}}), with(6, 7, 1)...)
	sees(t, views.Of(f, all, sizes{{Buffer: 10}, {Buffer: 10, W: 8, H: 9}}), with(0, 0)...)
	sees(t, views.Of(f, all, sizes{{Buffer: 30, W: 1, H: 1}, {Buffer: 10, W: 8, H: 9}}), with(8, 9, 0, 2)...)
	for _, n := range far {
		sees(t, views.Of(f, all, sizes{{Buffer: 10, W: n, H: -2}}), with(n, -2, 0, 2)...)
		sees(t, views.Of(f, all, sizes{{Buffer: 20, W: 4, H: n}}), with(4, n, 1)...)
	}
}

// P22.1: a buffer's number may be any but 0.
func TestBuffers(t *testing.T) {
	for _, n := range far {
		f := made(t, 1)
		may(t, f.Attach(1, n))
		commit(t, f, 1)
		got := views.Of(f, roots{{ID: 1}}, sizes{{Buffer: n, W: 2, H: 3}})
		if n == 0 {
			sees(t, got)
			continue
		}
		sees(t, got, api.View{Surface: 1, Buffer: n, W: 2, H: 3})
	}
}

// P22.1: the root's place is cut to the edges, and then those that are in it are moved by that, beyond the edges too.
func TestOfFar(t *testing.T) {
	f := inOne(t)
	cut := func(n int) int {
		if n < -edge {
			return -edge
		}
		if n > edge {
			return edge
		}
		return n
	}
	for _, x := range far {
		for _, y := range far {
			a, b := cut(x), cut(y)
			sees(t, views.Of(f, roots{{ID: 1, X: x, Y: y}}, nil), view(1, a, b), view(2, a+3, b+4), view(3, a+8, b-2))
		}
	}
}

// P22.1: in one another as deep as may be, each at an edge: no place is cut but the root's own.
func TestDeep(t *testing.T) {
	f := made(t, api.MaxSurface)
	for id := 2; id <= api.MaxSurface; id++ {
		may(t, f.Sub(id, id-1), f.Position(id, edge, -edge))
	}
	for id := api.MaxSurface; id > 0; id-- {
		commit(t, f, id)
	}
	var want []api.View
	for id := 1; id <= api.MaxSurface; id++ {
		want = append(want, view(id, id*edge, -id*edge))
	}
	sees(t, views.Of(f, roots{{ID: 1, X: math.MaxInt, Y: math.MinInt}}, nil), want...)
	for id := 1; id <= api.MaxSurface; id++ {
		root(t, f, 1, id)
	}
}

// P22.1, P22.2: what is not committed, or waits for a parent, is not told.
func TestNotCommitted(t *testing.T) {
	f := inOne(t)
	is := func(buffer int, all bool, region ...api.Rect) {
		t.Helper()
		l := views.Of(f, roots{{ID: 1}}, nil)
		sees(t, l, view(1, 0, 0), api.View{Surface: 2, Buffer: buffer, X: 3, Y: 4}, view(3, 8, -2))
		hits(t, views.Hits(f, l[1:2]), seat.Hit{Surface: 2, X: 3, Y: 4, All: all, Region: region})
	}
	is(20, true)
	may(t, f.Attach(2, 21), f.Input(2, false, rects{{X: 1, W: 2, H: 3}}))
	is(20, true)
	commit(t, f, 2)
	is(20, true)
	commit(t, f, 1)
	is(21, false, api.Rect{X: 1, W: 2, H: 3})
	may(t, f.Input(2, true, nil))
	commit(t, f, 2)
	is(21, false, api.Rect{X: 1, W: 2, H: 3})
	commit(t, f, 1)
	is(21, true)
}

// P22.2: of each view a hit, with all that the view says, whatever that is; and where its surface takes input now.
func TestHits(t *testing.T) {
	f := made(t, 3)
	region := rects{{X: 1, Y: 2, W: 3, H: 4}, {X: -5, W: 0, H: -7}}
	may(t, f.Input(2, false, region), f.Input(3, false, nil))
	commit(t, f, 2, 3)
	hits(t, views.Hits(f, []api.View{
		{Surface: 2, Buffer: 99, X: 5, Y: 6, W: 7, H: 8},
		{Surface: 1, Buffer: 20, X: -5, Y: -6, W: 1, H: 2},
		{Surface: 3, W: 3},
		{Surface: 2, Y: 1},
	}),
		seat.Hit{Surface: 2, X: 5, Y: 6, W: 7, H: 8, Region: region},
		seat.Hit{Surface: 1, X: -5, Y: -6, W: 1, H: 2, All: true},
		seat.Hit{Surface: 3, W: 3},
		seat.Hit{Surface: 2, Y: 1, Region: region})
	hits(t, views.Hits(f, nil))
	for _, n := range far {
		hits(t, views.Hits(f, []api.View{{Surface: 1, Buffer: n, X: n, Y: n + 1, W: n + 2, H: n + 3}}), seat.Hit{Surface: 1, X: n, Y: n + 1, W: n + 2, H: n + 3, All: true})
	}
}

// P22.2: a view of what is no surface is a hit too, which takes no input.
func TestHitsNone(t *testing.T) {
	f := made(t, 3)
	may(t, f.Drop(2))
	for _, id := range append([]int{2, 4}, far...) {
		if id == 1 {
			continue
		}
		hits(t, views.Hits(f, []api.View{{Surface: id, Buffer: 10, X: 1, Y: 2, W: 3, H: 4}, {Surface: 3}}), seat.Hit{Surface: id, X: 1, Y: 2, W: 3, H: 4}, seat.Hit{Surface: 3, All: true})
	}
}

// P22.2: who is the root, as surfaces come into one another, and go; a commit is not waited for.
func TestRoot(t *testing.T) {
	f := made(t, 5)
	for id := 1; id <= 5; id++ {
		root(t, f, id, id)
	}
	may(t, f.Sub(3, 5), f.Sub(1, 3), f.Sub(4, 3))
	root(t, f, 5, 5, 3, 1, 4)
	root(t, f, 2, 2)
	may(t, f.Sub(5, 2))
	root(t, f, 2, 2, 5, 3, 1, 4)
	may(t, f.Sync(3, false), f.Attach(3, 0))
	commit(t, f, 3)
	root(t, f, 2, 3, 1, 4)
	may(t, f.Unsub(3))
	root(t, f, 3, 3, 1, 4)
	root(t, f, 2, 5, 2)
	may(t, f.Drop(3))
	root(t, f, 1, 1)
	root(t, f, 4, 4)
	root(t, f, 0, 3)
}

// P22.2: who is no surface has no root.
func TestRootNone(t *testing.T) {
	f := inOne(t)
	for _, id := range far {
		if id != 1 {
			root(t, f, 0, id)
		}
		root(t, forest.New(), 0, id)
	}
	root(t, f, 0, 5)
}

// P22.2, R5: a surface's number may be any from 1 on.
func TestRootFar(t *testing.T) {
	f, last := forest.New(), math.MaxInt
	may(t, f.Add(last))
	for _, id := range far {
		if id > 0 && id < math.MaxInt {
			may(t, f.Add(id), f.Sub(id, last))
			last = id
		}
		root(t, f, math.MaxInt, last)
	}
}

// P22.2: the first view of a surface, whatever stands behind it; a number that no view has is none's.
func TestFind(t *testing.T) {
	l := []api.View{{Surface: 3, Buffer: 1, X: 2, Y: 3, W: 4, H: 5}, {Surface: 1, Buffer: 3}, {Surface: 3, X: 9}, {Surface: -2, W: 1}}
	found(t, l, 3, l[0], true)
	found(t, l, 1, l[1], true)
	found(t, l, -2, l[3], true)
	for _, id := range []int{0, 2, 4, 5, 9, -1} {
		found(t, l, id, api.View{}, false)
	}
	for _, id := range far {
		found(t, nil, id, api.View{}, false)
		found(t, []api.View{{Surface: id + 1, Buffer: id, X: id, Y: id, W: id, H: id}}, id, api.View{}, false)
		v := api.View{Surface: id, Buffer: 7}
		found(t, []api.View{{Surface: id - 1}, v}, id, v, true)
		found(t, []api.View{{}, v}, 0, api.View{}, true)
	}
}

// model is surfaces that were all committed, by the document's words: each one's children from the lowest on, itself (0) among them.
type model struct {
	parent, buffer map[int]int
	order          map[int][]int
	place          map[int][2]int
	all            map[int]bool
	region         map[int]rects
}

// number is mostly a small one.
func number(r *rand.Rand) int {
	if r.Intn(5) == 0 {
		return far[r.Intn(len(far))]
	}
	return r.Intn(21) - 10
}

// grow makes a forest of any surfaces, and its model.
func grow(t *testing.T, r *rand.Rand) (*forest.Forest, *model) {
	f := forest.New()
	m := &model{parent: map[int]int{}, buffer: map[int]int{}, order: map[int][]int{}, place: map[int][2]int{}, all: map[int]bool{}, region: map[int]rects{}}
	n := 1 + r.Intn(8)
	for id := 1; id <= n; id++ {
		may(t, f.Add(id))
		m.order[id] = []int{0}
		m.all[id] = true
		m.buffer[id] = r.Intn(5)
		may(t, f.Attach(id, m.buffer[id]))
		if r.Intn(2) == 0 {
			m.all[id], m.region[id] = false, rects{{X: number(r), W: id, H: number(r)}}
			may(t, f.Input(id, false, m.region[id]))
		}
		if p := r.Intn(id); p != 0 {
			m.put(t, f, r, id, p)
		}
	}
	for id := n; id > 0; id-- {
		commit(t, f, id)
	}
	return f, m
}

// put puts a surface into another one, above all of its children or just below it, anywhere.
func (m *model) put(t *testing.T, f *forest.Forest, r *rand.Rand, id, p int) {
	x, y := number(r), number(r)
	may(t, f.Sub(id, p), f.Position(id, x, y))
	m.parent[id] = p
	m.place[id] = [2]int{bound(x), bound(y)}
	if r.Intn(2) == 0 {
		m.order[p] = append(m.order[p], id)
		return
	}
	may(t, f.Below(id, p))
	m.order[p] = slices.Insert(m.order[p], slices.Index(m.order[p], 0), id)
}

// bound is a number within the edges.
func bound(n int) int {
	switch {
	case n > edge:
		return edge
	case n < -edge:
		return -edge
	}
	return n
}

// see is what is seen with a surface at a place.
func (m *model) see(id, x, y int, l sizes) []api.View {
	var seen []api.View
	for _, child := range m.order[id] {
		switch {
		case m.buffer[id] == 0:
		case child != 0:
			seen = append(seen, m.see(child, x+m.place[child][0], y+m.place[child][1], l)...)
		default:
			v := api.View{Surface: id, Buffer: m.buffer[id], X: x, Y: y}
			for _, s := range slices.Backward(l) {
				if s.Buffer == v.Buffer {
					v.W, v.H = s.W, s.H
				}
			}
			seen = append(seen, v)
		}
	}
	return seen
}

// root is the last one on the way up.
func (m *model) root(id int) int {
	if m.order[id] == nil {
		return 0
	}
	if m.parent[id] != 0 {
		return m.root(m.parent[id])
	}
	return id
}

// P22.1, P22.2: any surfaces, held against the model.
func TestAny(t *testing.T) {
	r := rand.New(rand.NewSource(22))
	for range 2000 {
		f, m := grow(t, r)
		var at roots
		var l sizes
		var want []api.View
		for range r.Intn(5) {
			l = append(l, views.Size{Buffer: r.Intn(5), W: number(r), H: number(r)})
		}
		for range r.Intn(5) {
			c := api.Child{ID: r.Intn(11), X: number(r), Y: number(r)}
			at = append(at, c)
			want = append(want, m.see(c.ID, bound(c.X), bound(c.Y), l)...)
		}
		got := views.Of(f, at, l)
		sees(t, got, want...)
		got = append(got, api.View{Surface: r.Intn(11), W: number(r)})
		var on []seat.Hit
		for _, v := range got {
			on = append(on, seat.Hit{Surface: v.Surface, X: v.X, Y: v.Y, W: v.W, H: v.H, All: m.all[v.Surface], Region: m.region[v.Surface]})
		}
		hits(t, views.Hits(f, got), on...)
		for id := -1; id < 12; id++ {
			root(t, f, m.root(id), id)
			var first api.View
			is := false
			for _, v := range got {
				if v.Surface == id && !is {
					first, is = v, true
				}
			}
			found(t, got, id, first, is)
		}
	}
}

// told is all that can be asked of the surfaces 1 to 4.
func told(f *forest.Forest) []any {
	l := []any{f.All(), f.Held()}
	for id := 1; id <= 4; id++ {
		l = append(l, f.Parent(id), f.Synced(id), f.Pending(id), f.Cached(id), f.Current(id), f.Walk(id))
	}
	return l
}

// R3, R4: to ask turns neither the forest, callbacks of frames in it too, nor what is handed in; and is answered the same again.
func TestTurnsNothing(t *testing.T) {
	f := inOne(t)
	may(t, f.Frame(1, 7), f.Input(2, false, rects{{W: 1, H: 1}}))
	commit(t, f, 2, 1)
	may(t, f.Frame(1, 8), f.Attach(4, 9), f.Frame(3, 5))
	commit(t, f, 3)
	was := told(f)
	at, l := roots{{ID: 1, X: math.MaxInt}, {ID: 4}, {ID: 9}}, sizes{{Buffer: 20, W: 1, H: 2}, {Buffer: 20, W: 3}}
	seen := views.Of(f, at, l)
	on := views.Hits(f, seen)
	for range 3 {
		again := views.Of(f, at, l)
		sees(t, again, seen...)
		hits(t, views.Hits(f, again), on...)
		root(t, f, 1, 3)
		found(t, again, 2, seen[1], true)
		sees(t, again, seen...)
	}
	if !reflect.DeepEqual(told(f), was) {
		t.Error("the forest was turned")
	}
	if !slices.Equal(at, roots{{ID: 1, X: math.MaxInt}, {ID: 4}, {ID: 9}}) || !slices.Equal(l, sizes{{Buffer: 20, W: 1, H: 2}, {Buffer: 20, W: 3}}) {
		t.Error("a list was turned:", at, l)
	}
}

// R3: each answer is new memory, spare room too: who writes to it writes to nothing else, not even to the next hit.
func TestMemory(t *testing.T) {
	f := made(t, 2)
	region := rects{{W: 1, H: 1}, {Y: 2, W: 1, H: 1}, {Y: 4, W: 1, H: 1}}
	may(t, f.Input(1, false, region))
	commit(t, f, 1)
	was := told(f)
	spare := make([]api.View, 2, 8)
	spare[0], spare[1] = view(1, 0, 0), view(1, 5, 5)
	on := views.Hits(f, spare)
	want := seat.Hit{Surface: 1, X: 5, Y: 5, Region: region}
	for i := range on[0].Region[:cap(on[0].Region)] {
		on[0].Region[:cap(on[0].Region)][i] = api.Rect{X: 77}
	}
	hits(t, on[1:], want)
	hits(t, views.Hits(f, spare)[1:], want)
	on = on[:cap(on)]
	for i := range on {
		on[i] = seat.Hit{Surface: 77}
	}
	seen := views.Of(f, roots{{ID: 1}, {ID: 2}, {ID: 1}}, nil)
	again := views.Of(f, roots{{ID: 1}, {ID: 2}, {ID: 1}}, nil)
	seen = seen[:cap(seen)]
	for i := range seen {
		seen[i] = api.View{Surface: 77}
	}
	sees(t, again, view(1, 0, 0), view(2, 0, 0), view(1, 0, 0))
	sees(t, spare[:3], view(1, 0, 0), view(1, 5, 5), api.View{})
	if !reflect.DeepEqual(told(f), was) {
		t.Error("the forest was turned")
	}
}

// R4: what one forest has says nothing of another one's.
func TestApart(t *testing.T) {
	a, c := inOne(t), made(t, 2)
	sees(t, views.Of(c, roots{{ID: 1}, {ID: 3}}, nil), view(1, 0, 0))
	sees(t, views.Of(a, roots{{ID: 3}}, nil), view(3, 0, 0))
	root(t, c, 2, 2)
	root(t, a, 1, 2)
	hits(t, views.Hits(c, []api.View{view(3, 0, 0)}), seat.Hit{Surface: 3})
	hits(t, views.Hits(a, []api.View{view(3, 0, 0)}), seat.Hit{Surface: 3, All: true})
}
