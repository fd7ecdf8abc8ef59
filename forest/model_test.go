package forest_test

import (
	"errors"
	"math"
	"math/rand"
	"reflect"
	"slices"
	"testing"

	"tableau/api"
	"tableau/forest"
)

// known are all errors there are: an answer must be just one of them.
var known = []error{
	api.ErrArg, api.ErrShort, api.ErrBytes, api.ErrBig, api.ErrObject, api.ErrMethod, api.ErrFormat, api.ErrStride,
	api.ErrFile, api.ErrRole, api.ErrPlace, api.ErrState, api.ErrSerial, api.ErrFull, api.ErrGone, api.ErrSheet,
}

// just tells whether e is want, and none of the others.
func just(e, want error) bool {
	for _, k := range known {
		if errors.Is(e, k) != (k == want) {
			return false
		}
	}
	return (e == nil) == (want == nil)
}

// plain is a state in which an empty list is nil, so that two of them may be held against each other by DeepEqual.
func plain(s api.State) api.State {
	v := reflect.ValueOf(&s).Elem()
	for i := range v.NumField() {
		if f := v.Field(i); f.Kind() == reflect.Slice && f.Len() == 0 {
			f.SetZero()
		}
	}
	return s
}

// like tells whether two states are the same.
func like(a, b api.State) bool { return reflect.DeepEqual(plain(a), plain(b)) }

// The model: the document's words, one by one, with nothing of the program's own packages but the types.

// kinds of states of a surface.
const (
	pending = iota
	cached
	current
)

// model is a forest whose states are values that are never written to in place.
type model struct {
	states map[int][3]api.State
	parent map[int]int
	sync   map[int]bool
}

func newModel() *model {
	return &model{map[int][3]api.State{}, map[int]int{}, map[int]bool{}}
}

func (m *model) has(id int) bool { _, ok := m.states[id]; return ok }

func (m *model) set(id, which int, s api.State) {
	all := m.states[id]
	all[which] = s
	m.states[id] = all
}

func without(l []int, id int) []int {
	return slices.DeleteFunc(slices.Clone(l), func(n int) bool { return n == id })
}

func unplaced(l []api.Child, id int) []api.Child {
	return slices.DeleteFunc(slices.Clone(l), func(c api.Child) bool { return c.ID == id })
}

func put(l []api.Child, c api.Child) []api.Child {
	l = slices.Clone(l)
	for i := range l {
		if l[i].ID == c.ID {
			l[i] = c
			return l
		}
	}
	return append(l, c)
}

func merged(a, b api.State) api.State {
	if b.Attach {
		a.Attach, a.Buffer = true, b.Buffer
	}
	if b.Input {
		a.Input, a.All, a.Region = true, b.All, b.Region
	}
	if b.Ordered {
		a.Ordered, a.Order = true, b.Order
	}
	a.Damage, a.Frames = slices.Concat(a.Damage, b.Damage), slices.Concat(a.Frames, b.Frames)
	for _, c := range b.Places {
		a.Places = put(a.Places, c)
	}
	return a
}

func applied(now, s api.State) api.State {
	now = merged(now, s)
	now.Attach, now.Input, now.Ordered, now.Damage = false, false, false, nil
	return now
}

func (m *model) add(id int) error {
	switch {
	case id < 1:
		return api.ErrArg
	case m.has(id):
		return api.ErrObject
	case len(m.states) == 40:
		return api.ErrBig
	}
	m.states[id] = [3]api.State{current: {All: true, Order: []int{0}}}
	return nil
}

func (m *model) drop(id int) error {
	if !m.has(id) {
		return api.ErrObject
	}
	m.unsub(id)
	for c, p := range m.parent {
		if p == id {
			delete(m.parent, c)
		}
	}
	delete(m.states, id)
	return nil
}

func (m *model) latest(id int) []int {
	for _, s := range m.states[id] {
		if s.Ordered {
			return s.Order
		}
	}
	return m.states[id][current].Order
}

func (m *model) reorder(id int, l []int) {
	s := m.states[id][pending]
	s.Ordered, s.Order = true, l
	m.set(id, pending, s)
}

func (m *model) sub(id, parent int) error {
	if !m.has(id) || !m.has(parent) {
		return api.ErrObject
	}
	if m.parent[id] != 0 {
		return api.ErrRole
	}
	for up := parent; up != 0; up = m.parent[up] {
		if up == id {
			return api.ErrPlace
		}
	}
	m.parent[id], m.sync[id] = parent, true
	m.reorder(parent, append(without(m.latest(parent), id), id))
	return m.position(id, 0, 0)
}

// sub1 is what is asked of a subsurface first.
func (m *model) sub1(id int) error {
	if !m.has(id) {
		return api.ErrObject
	}
	if m.parent[id] == 0 {
		return api.ErrRole
	}
	return nil
}

func (m *model) unsub(id int) error {
	if err := m.sub1(id); err != nil {
		return err
	}
	p := m.parent[id]
	delete(m.parent, id)
	for which, s := range m.states[p] {
		s.Order, s.Places = without(s.Order, id), unplaced(s.Places, id)
		m.set(p, which, s)
	}
	return nil
}

func (m *model) turn(id int, s api.State) error {
	if !m.has(id) {
		return api.ErrObject
	}
	m.set(id, pending, merged(m.states[id][pending], s))
	return nil
}

func (m *model) position(id, x, y int) error {
	if err := m.sub1(id); err != nil {
		return err
	}
	cut := func(n int) int { return max(-16777216, min(16777216, n)) }
	return m.turn(m.parent[id], api.State{Places: []api.Child{{ID: id, X: cut(x), Y: cut(y)}}})
}

func (m *model) place(id, by, behind int) error {
	if err := m.sub1(id); err != nil {
		return err
	}
	p := m.parent[id]
	l := m.latest(p)
	if by == 0 || by == id || by != p && !slices.Contains(l, by) {
		return api.ErrPlace
	}
	if by == p {
		by = 0
	}
	l = without(l, id)
	m.reorder(p, slices.Insert(l, slices.Index(l, by)+behind, id))
	return nil
}

func (m *model) synced(id int) bool {
	p := m.parent[id]
	return p != 0 && (m.sync[id] || m.synced(p))
}

func (m *model) commit(id int) ([]int, error) {
	if !m.has(id) {
		return nil, api.ErrObject
	}
	s := merged(m.states[id][cached], m.states[id][pending])
	m.set(id, pending, api.State{})
	if m.synced(id) {
		m.set(id, cached, s)
		return nil, nil
	}
	m.set(id, cached, api.State{})
	m.set(id, current, applied(m.states[id][current], s))
	return append([]int{id}, m.below(id)...), nil
}

func (m *model) below(id int) (l []int) {
	for _, c := range m.states[id][current].Order {
		if c == 0 || !m.synced(c) {
			continue
		}
		if s := m.states[c][cached]; !like(s, api.State{}) {
			m.set(c, cached, api.State{})
			m.set(c, current, applied(m.states[c][current], s))
			l = append(l, c)
		}
		l = append(l, m.below(c)...)
	}
	return l
}

func (m *model) take(id int) []int {
	if !m.has(id) {
		return nil
	}
	s := m.states[id][current]
	l := s.Frames
	s.Frames = nil
	m.set(id, current, s)
	return l
}

func (m *model) held() (l []int) {
	for _, s := range m.states {
		if s[cached].Attach {
			l = append(l, s[cached].Buffer)
		}
		l = append(l, s[current].Buffer)
	}
	slices.Sort(l)
	return slices.DeleteFunc(slices.Compact(l), func(n int) bool { return n <= 0 })
}

func (m *model) walk(id int) (l []api.Child) {
	s := m.states[id][current]
	if !m.has(id) || s.Buffer == 0 {
		return nil
	}
	for _, c := range s.Order {
		if c == 0 {
			l = append(l, api.Child{ID: id})
			continue
		}
		at := api.Child{}
		if i := slices.IndexFunc(s.Places, func(p api.Child) bool { return p.ID == c }); i >= 0 {
			at = s.Places[i]
		}
		for _, x := range m.walk(c) {
			l = append(l, api.Child{ID: x.ID, X: x.X + at.X, Y: x.Y + at.Y})
		}
	}
	return l
}

// agree wants a forest to be as the model is, by all that can be asked.
func agree(t *testing.T, f *forest.Forest, m *model, ids int) {
	t.Helper()
	var all []int
	for id := -1; id <= ids+1; id++ {
		if m.has(id) {
			all = append(all, id)
		}
		s := m.states[id]
		if f.Has(id) != m.has(id) || f.Parent(id) != m.parent[id] || f.Synced(id) != m.synced(id) {
			t.Fatal(id, f.Has(id), f.Parent(id), f.Synced(id))
		}
		for which, got := range []api.State{f.Pending(id), f.Cached(id), f.Current(id)} {
			if !like(got, s[which]) {
				t.Fatalf("%d, state %d:\n%+v, not\n%+v", id, which, got, s[which])
			}
		}
		if got, want := f.Walk(id), m.walk(id); !slices.Equal(got, want) {
			t.Fatal(id, "walk", got, want)
		}
	}
	if !slices.Equal(f.All(), all) || !slices.Equal(f.Held(), m.held()) {
		t.Fatal(f.All(), f.Held(), m.held())
	}
}

// step does one thing to a forest and to the model.
func step(t *testing.T, r *rand.Rand, f *forest.Forest, m *model, ids int) {
	t.Helper()
	kind, id, by := r.Intn(30), r.Intn(ids+1), r.Intn(ids+1)
	x, y, on := r.Intn(9)-4, r.Intn(9)-4, r.Intn(2) == 0
	if r.Intn(40) == 0 {
		x, y = math.MinInt+r.Intn(2), math.MaxInt-r.Intn(2)
	}
	rects := []api.Rect{{X: x, Y: y, W: 1, H: 1}}
	var got, want error
	switch kind {
	case 0:
		got, want = f.Drop(id), m.drop(id)
	case 1, 2:
		got, want = f.Add(id), m.add(id)
	case 3, 4, 5, 6:
		got, want = f.Sub(id, by), m.sub(id, by)
	case 7:
		got, want = f.Unsub(id), m.unsub(id)
	case 8, 9, 10:
		got, want = f.Attach(id, x), m.turn(id, api.State{Attach: true, Buffer: x})
	case 11:
		got, want = f.Damage(id, rects[0]), m.turn(id, api.State{Damage: rects})
	case 12, 13:
		got, want = f.Frame(id, x), m.turn(id, api.State{Frames: []int{x}})
	case 14:
		got = f.Input(id, on, rects)
		if on {
			rects = nil
		}
		want = m.turn(id, api.State{Input: true, All: on, Region: rects})
	case 15, 16:
		got, want = f.Position(id, x, y), m.position(id, x, y)
	case 17, 18:
		got, want = f.Above(id, by), m.place(id, by, 1)
	case 19, 20:
		got, want = f.Below(id, by), m.place(id, by, 0)
	case 21, 22, 23:
		got, want = f.Sync(id, on), m.setSync(id, on)
	case 24:
		if a, b := f.Take(id), m.take(id); !slices.Equal(a, b) {
			t.Fatal("take", id, a, b)
		}
	default:
		a, e := f.Commit(id)
		b, w := m.commit(id)
		if got, want = e, w; !slices.Equal(a, b) || e != nil && a != nil {
			t.Fatal("commit", id, a, b)
		}
	}
	if !just(got, want) {
		t.Fatal("kind", kind, "of", id, by, x, y, on, ":", got, "not", want)
	}
}

func (m *model) setSync(id int, on bool) error {
	err := m.sub1(id)
	if err == nil {
		m.sync[id] = on
	}
	return err
}

// P17.1 to P17.5: whatever a forest has been through, it is as the document's words say.
func TestModel(t *testing.T) {
	for seed := range 400 {
		r := rand.New(rand.NewSource(int64(seed)))
		ids := 2 + seed%8
		f, m := forest.New(), newModel()
		for id := 1; id <= ids; id++ {
			f.Add(id)
			m.add(id)
		}
		for range 300 {
			step(t, r, f, m, ids)
			agree(t, f, m, ids)
		}
	}
}
