package desk_test

import (
	"fmt"
	"math/rand"
	"slices"
	"strings"
	"testing"

	"tableau/api"
	"tableau/forest"
	"tableau/memory"
	"tableau/pixel"
	"tableau/pool"
	"tableau/region"
	"tableau/shell"
	"tableau/state"
)

// thing is an object of the model: what it is, and, by what it is, its buffer's or surface's number, its memory's key, its points.
type thing struct {
	face   string
	n      int
	parent int // of a subsurface
	key    int
	points []api.Rect
}

// person is a client of the model.
type person struct {
	number int
	things map[int]*thing
	mem    *memory.Memory
	pinged int // the serial that waits; 0: none
	since  int
	said   []string
}

// model is what a desk has, as the document says it. Surfaces, windows and pools are told by their own layers; all else is plain.
type model struct {
	people      []*person
	f           *forest.Forest
	s           *shell.Shell
	p           *pool.Store
	stack       []int
	at          map[int][2]int
	placed      int
	buffers     int
	held        []int
	serial      int
	now, ticks  int
	x, y        int
	mouse, keys int
	screen      []uint32
}

// newModel is one with a screen of 16 by 12.
func newModel() *model {
	m := &model{f: forest.New(), s: shell.New(), p: pool.New(), at: map[int][2]int{}}
	m.screen = slices.Repeat([]uint32{0xff102030}, 16*12)
	return m
}

// person is one that is there; nil.
func (m *model) person(c int) *person {
	if c < 1 || c > len(m.people) {
		return nil
	}
	return m.people[c-1]
}

// say tells a client a line.
func (p *person) say(words ...any) {
	p.said = append(p.said, strings.TrimSuffix(fmt.Sprintln(words...), "\n"))
}

// end ends an object.
func (p *person) end(id int) {
	delete(p.things, id)
	p.say("display", 1, "delete_id", id)
}

// of are a client's objects of an interface, rising.
func (p *person) of(face string) []int {
	var l []int
	for id := range 256 {
		if x := p.things[id]; x != nil && x.face == face {
			l = append(l, id)
		}
	}
	return l
}

// is tells whether an object is of an interface.
func (p *person) is(id int, face string) bool {
	x := p.things[id]
	return x != nil && x.face == face
}

// next is a new serial.
func (m *model) next() int {
	m.serial++
	return m.serial
}

// verdict is what is wrong with a request: the object, and why.
type verdict struct {
	object int
	why    error
}

// makes is what a request makes.
var makes = map[string]string{
	"display.sync": "callback", "display.get_registry": "registry", "compositor.create_surface": "surface", "compositor.create_region": "region", "shm.create_pool": "pool", "pool.create_buffer": "buffer",
	"surface.frame": "callback", "subcompositor.get_subsurface": "subsurface", "seat.get_pointer": "pointer", "seat.get_keyboard": "keyboard", "wm_base.get_xdg_surface": "xdg_surface", "xdg_surface.get_toplevel": "toplevel",
}

// globals are what may be bound, by their names.
var globals = []struct {
	text, face string
	most       int
}{{}, {"wl_compositor", "compositor", 4}, {"wl_shm", "shm", 1}, {"wl_subcompositor", "subcompositor", 1}, {"wl_seat", "seat", 5}, {"xdg_wm_base", "wm_base", 1}}

// handle does a request; the object is there, and of the name's interface.
func (m *model) handle(p *person, name string, object int, args []any) verdict {
	face := makes[name]
	if name == "registry.bind" {
		n, version := args[0].(int), args[2].(int)
		if n < 1 || n > 5 || globals[n].text != args[1] || version < 1 || version > globals[n].most {
			return verdict{object, api.ErrArg}
		}
		face = globals[n].face
	}
	id := 0
	if face != "" {
		id = args[strings.Index(forms[name].letters, "n")].(int)
		if id < 2 || id > 255 || p.things[id] != nil {
			return verdict{1, api.ErrObject}
		}
		p.things[id] = &thing{face: face}
	}
	numbers := make([]int, len(args))
	for i, a := range args {
		numbers[i], _ = a.(int)
	}
	if why := m.do(p, name, object, id, numbers); why != nil {
		delete(p.things, id)
		return verdict{object, why}
	}
	if strings.HasSuffix(name, ".destroy") || strings.HasSuffix(name, ".release") {
		p.end(object)
	}
	m.free()
	return verdict{}
}

// free tells of buffers that are not held any more.
func (m *model) free() {
	held := map[int]int{}
	for _, s := range m.f.All() {
		held[m.f.Current(s).Buffer]++
		if c := m.f.Cached(s); c.Attach {
			held[c.Buffer]++
		}
	}
	delete(held, 0)
	for n := 1; n <= m.buffers; n++ {
		if held[n] > 0 || !slices.Contains(m.held, n) {
			continue
		}
		if !m.p.Live(n) {
			m.p.Forget(n)
		}
		for _, p := range m.people {
			for id := range 256 {
				if p != nil && p.is(id, "buffer") && p.things[id].n == n {
					p.say("buffer", id, "release")
				}
			}
		}
	}
	m.held = nil
	for n := range held {
		m.held = append(m.held, n)
	}
}

// do does what a request says; id is what it makes.
func (m *model) do(p *person, name string, object, id int, a []int) error {
	x, n := p.things[object], 1000*p.number+object
	switch name {
	case "display.sync":
		p.say("callback", id, "done", m.serial)
		p.end(id)
	case "display.get_registry":
		for i, g := range globals[1:] {
			p.say("registry", id, "global", i+1, g.text, g.most)
		}
	case "registry.bind":
		if a[0] == 2 {
			p.say("shm", id, "format", 0)
			p.say("shm", id, "format", 1)
		}
		if a[0] == 4 {
			p.say("seat", id, "capabilities", 3)
		}
	case "compositor.create_surface":
		return m.f.Add(1000*p.number + id)
	case "shm.create_pool":
		p.things[id].key = a[1]
		return m.p.Pool(1000*p.number+id, a[1], a[2], p.mem.Size(a[1]))
	case "pool.create_buffer":
		e := m.p.Buffer(m.buffers+1, n, a[1], a[2], a[3], a[4], a[5])
		if e == nil {
			m.buffers++
			p.things[id].n = m.buffers
		}
		return e
	case "pool.destroy":
		return m.p.DropPool(n)
	case "pool.resize":
		return m.p.Resize(n, a[0], p.mem.Size(x.key))
	case "buffer.destroy":
		if !slices.Contains(m.f.Held(), x.n) {
			defer m.p.Forget(x.n)
		}
		return m.p.DropBuffer(x.n)
	case "region.add":
		x.points = region.Union(x.points, region.Of(api.Rect{X: a[0], Y: a[1], W: a[2], H: a[3]}))
	case "region.subtract":
		x.points = region.Subtract(x.points, region.Of(api.Rect{X: a[0], Y: a[1], W: a[2], H: a[3]}))
	case "subcompositor.get_subsurface":
		s, parent := 1000*p.number+a[1], 1000*p.number+a[2]
		if !p.is(a[1], "surface") || !p.is(a[2], "surface") {
			return api.ErrObject
		}
		if m.s.Has(s) {
			return api.ErrRole
		}
		p.things[id].n, p.things[id].parent = s, parent
		return m.f.Sub(s, parent)
	}
	if face, what, _ := strings.Cut(name, "."); face == "surface" {
		return m.surface(p, n, what, a)
	} else if face == "subsurface" && x.n != 0 {
		return m.subsurface(p, x, what, a)
	}
	return m.window(p, x, name, id, a)
}

// surface does what a surface is asked.
func (m *model) surface(p *person, n int, what string, a []int) error {
	switch what {
	case "destroy":
		if m.s.Has(n) {
			return api.ErrRole
		}
		m.dropSurface(p, n)
	case "attach":
		if a[1] != 0 || a[2] != 0 {
			return api.ErrArg
		}
		if a[0] == 0 {
			return m.f.Attach(n, 0)
		}
		if !p.is(a[0], "buffer") {
			return api.ErrObject
		}
		return m.f.Attach(n, p.things[a[0]].n)
	case "damage":
		if a[2] > 0 && a[3] > 0 {
			return m.f.Damage(n, api.Rect{X: a[0], Y: a[1], W: a[2], H: a[3]})
		}
	case "frame":
		return m.f.Frame(n, 1000*p.number+a[0])
	case "set_input_region":
		if a[0] == 0 {
			return m.f.Input(n, true, nil)
		}
		if !p.is(a[0], "region") {
			return api.ErrObject
		}
		return m.f.Input(n, false, p.things[a[0]].points)
	case "commit":
		return m.commit(p, n)
	}
	return nil
}

// dropSurface takes a surface away.
func (m *model) dropSurface(p *person, n int) {
	for _, x := range p.things {
		if x.face == "subsurface" && (x.n == n || x.parent == n) {
			x.n, x.parent = 0, 0
		}
	}
	if m.mouse == n {
		m.mouse = 0
	}
	if m.keys == n {
		m.keys = 0
	}
	m.f.Drop(n)
}

// commit commits a surface.
func (m *model) commit(p *person, n int) error {
	todo := 0
	if m.s.Has(n) {
		buffer := m.f.Current(n).Buffer
		next := state.Merge(m.f.Cached(n), m.f.Pending(n))
		if next.Attach {
			buffer = next.Buffer
		}
		var e error
		if todo, e = m.s.Commit(n, next.Attach, buffer != 0); e != nil {
			return e
		}
	}
	m.f.Commit(n)
	switch todo {
	case 1:
		m.ask(p, n, 0, 0)
	case 2:
		m.at[n] = [2]int{m.placed % 7 * 3, m.placed % 5 * 2}
		m.placed++
		m.raise(n)
	case 3:
		m.hide(n)
	}
	return nil
}

// raise and hide put a window on top, and take it off.
func (m *model) raise(n int) {
	m.hide(n)
	m.stack = append(m.stack, n)
}

func (m *model) hide(n int) {
	m.stack = slices.DeleteFunc(m.stack, func(k int) bool { return k == n })
}

// ask asks a window to be so great.
func (m *model) ask(p *person, n, w, h int) {
	for _, id := range p.of("toplevel") {
		if p.things[id].n == n {
			p.say("toplevel", id, "configure", w, h)
		}
	}
	for _, id := range p.of("xdg_surface") {
		if p.things[id].n == n {
			p.say("xdg_surface", id, "configure", m.next())
		}
	}
	m.s.Send(n, m.serial)
}

// subsurface does what a subsurface that does something still is asked.
func (m *model) subsurface(p *person, x *thing, what string, a []int) error {
	switch what {
	case "destroy":
		return m.f.Unsub(x.n)
	case "set_position":
		return m.f.Position(x.n, a[0], a[1])
	case "place_above", "place_below":
		if !p.is(a[0], "surface") {
			return api.ErrObject
		}
		if what == "place_above" {
			return m.f.Above(x.n, 1000*p.number+a[0])
		}
		return m.f.Below(x.n, 1000*p.number+a[0])
	case "set_sync", "set_desync":
		return m.f.Sync(x.n, what == "set_sync")
	}
	return nil
}

// window does what windows are asked.
func (m *model) window(p *person, x *thing, name string, id int, a []int) error {
	switch name {
	case "wm_base.get_xdg_surface":
		n := 1000*p.number + a[1]
		if !p.is(a[1], "surface") {
			return api.ErrObject
		}
		if m.f.Parent(n) != 0 {
			return api.ErrRole
		}
		next := state.Merge(m.f.Cached(n), m.f.Pending(n))
		p.things[id].n = n
		return m.s.Add(n, m.f.Current(n).Buffer != 0 || next.Attach && next.Buffer != 0)
	case "wm_base.pong":
		if p.pinged == a[0] {
			p.pinged = 0
		}
	case "xdg_surface.destroy":
		return m.s.Drop(x.n)
	case "xdg_surface.get_toplevel":
		p.things[id].n = x.n
		return m.s.Top(x.n)
	case "xdg_surface.ack_configure":
		return m.s.Ack(x.n, a[0])
	case "toplevel.destroy":
		m.hide(x.n)
		return m.s.Untop(x.n)
	}
	return nil
}

// drop drops a client.
func (m *model) drop(p *person) {
	for _, id := range p.of("toplevel") {
		m.hide(p.things[id].n)
		m.s.Untop(p.things[id].n)
	}
	for _, id := range p.of("xdg_surface") {
		m.s.Drop(p.things[id].n)
	}
	for _, id := range p.of("surface") {
		m.dropSurface(p, 1000*p.number+id)
	}
	for _, id := range p.of("buffer") {
		m.p.Forget(p.things[id].n)
	}
	for _, id := range p.of("pool") {
		m.p.DropPool(1000*p.number + id)
	}
	m.people[p.number-1] = nil
}

// views are what is seen.
func (m *model) views() []api.View {
	var l []api.View
	for _, n := range m.stack {
		for _, c := range m.f.Walk(n) {
			b := m.f.Current(c.ID).Buffer
			info, _ := m.p.Info(b)
			l = append(l, api.View{Surface: c.ID, Buffer: b, X: m.at[n][0] + c.X, Y: m.at[n][1] + c.Y, W: info.W, H: info.H})
		}
	}
	return l
}

// each says something to each object of an interface of a surface's client.
func (m *model) each(face string, surface int, words ...any) {
	p := m.people[surface/1000-1]
	for _, id := range p.of(face) {
		p.say(append([]any{face, id}, words...)...)
	}
}

// look gives the pointer to what is below it.
func (m *model) look(moved bool) {
	over, x, y := 0, 0, 0
	for _, v := range m.views() {
		s := m.f.Current(v.Surface)
		in := m.x >= v.X && m.y >= v.Y && m.x < v.X+v.W && m.y < v.Y+v.H
		if in && (s.All || region.Has(s.Region, m.x-v.X, m.y-v.Y)) {
			over, x, y = v.Surface, m.x-v.X, m.y-v.Y
		}
	}
	if over == m.mouse {
		if over != 0 && moved {
			m.each("pointer", over, "motion", m.now, x*256, y*256)
		}
		return
	}
	if m.mouse != 0 {
		m.each("pointer", m.mouse, "leave", m.next(), m.mouse%1000)
	}
	if over != 0 {
		m.each("pointer", over, "enter", m.next(), over%1000, x*256, y*256)
	}
	m.mouse = over
}

// tick paints, and tells.
func (m *model) tick(time int) []int {
	m.now = ((time % (1 << 32)) + 1<<32) % (1 << 32)
	m.ticks++
	l := m.views()
	m.paint(l)
	for _, v := range l {
		p := m.people[v.Surface/1000-1]
		for _, n := range m.f.Take(v.Surface) {
			p.say("callback", n%1000, "done", m.now)
			p.end(n % 1000)
		}
	}
	m.look(false)
	top := 0
	if len(m.stack) > 0 {
		top = m.stack[len(m.stack)-1]
	}
	if top != m.keys {
		if m.keys != 0 {
			m.each("keyboard", m.keys, "leave", m.next(), m.keys%1000)
		}
		if top != 0 {
			m.each("keyboard", top, "enter", m.next(), top%1000)
		}
		m.keys = top
	}
	var late []int
	for _, p := range m.people {
		if p != nil && p.pinged != 0 && m.ticks-p.since > 3 {
			late = append(late, p.number)
		}
	}
	return late
}

// paint is each point's fold of what is there.
func (m *model) paint(l []api.View) {
	for i := range m.screen {
		m.screen[i] = 0xff102030
		for _, v := range l {
			x, y := i%16-v.X, i/16-v.Y
			info, ok := m.p.Info(v.Buffer)
			if !ok || x < 0 || y < 0 || x >= info.W || y >= info.H {
				continue
			}
			mem := m.people[v.Surface/1000-1].mem
			colour := pixel.Load(mem.Word(info.Key, info.Offset+info.Stride*y+4*x), info.Format)
			m.screen[i] = pixel.Over(m.screen[i], colour)
		}
	}
}

// pair is a desk and its model.
type pair struct {
	*trial
	m *model
	r *rand.Rand
}

// ask asks both, and wants the same; it tells whether the request was right.
func (k *pair) ask(c int, name string, object int, args ...any) bool {
	k.Helper()
	p := k.m.person(c)
	face, _, _ := strings.Cut(name, ".")
	e := k.d.Handle(c, raw(object, name, args...))
	if p == nil {
		if !just(e, api.ErrGone) {
			k.Fatal(e)
		}
		return false
	}
	if !p.is(object, face) {
		k.Fatal("the test asks another one: ", name, object)
	}
	want := k.m.handle(p, name, object, args)
	if want.why == nil && e == nil {
		return true
	}
	if s := fmt.Sprintf("%d %d %v", want.object, code(want.why), want.why); want.why == nil || !just(e, want.why) || faultText(e) != s {
		k.Fatalf("%s of %d %v: %v %s, not %s", name, object, args, e, faultText(e), s)
	}
	return false
}

// faultText is a fault as a text.
func faultText(e error) string {
	f, _ := e.(*api.Fault)
	if f == nil {
		return "none"
	}
	return fmt.Sprintf("%d %d %s", f.Object, f.Code, f.Text)
}

// same wants both to be the same in all that can be told; what clients are told is not asked for each time.
func (k *pair) same() {
	k.Helper()
	if k.d.Serial() != k.m.serial || !slices.Equal(k.d.Views(), k.m.views()) || !slices.Equal(k.d.Screen(), k.m.screen) {
		k.Fatalf("%d %v, not %d %v", k.d.Serial(), k.d.Views(), k.m.serial, k.m.views())
	}
	for i, p := range k.m.people {
		for id := range 60 {
			want := ""
			if p != nil && p.things[id] != nil {
				want = p.things[id].face
			}
			if got := k.d.Face(i+1, id); got != slices.Index(faces, want)+1 {
				k.Fatalf("client %d object %d: %d, not %s", i+1, id, got, want)
			}
		}
		if k.r.Intn(3) > 0 {
			continue
		}
		var want []string
		if p != nil {
			want, p.said = p.said, nil
		}
		k.told(i+1, want...)
	}
}

// some is one of a list, or 0.
func (k *pair) some(l []int) int {
	if len(l) == 0 {
		return 0
	}
	return l[k.r.Intn(len(l))]
}

// number is an argument: mostly small, at times far.
func (k *pair) number() int {
	switch k.r.Intn(12) {
	case 0:
		return -k.r.Intn(9)
	case 1:
		return k.r.Intn(1 << 31)
	}
	return k.r.Intn(6)
}

// free is a number for a new object, mostly one that is free.
func (k *pair) free(p *person) int {
	id := 8 + k.r.Intn(50)
	for k.r.Intn(20) > 0 && p.things[id] != nil {
		id = 8 + k.r.Intn(50)
	}
	return id
}

// wants are the interfaces of the objects that a request asks for.
var wants = map[string]string{"surface.attach": "buffer", "surface.set_input_region": "region", "subcompositor.get_subsurface": "surface", "subsurface.place_above": "surface", "subsurface.place_below": "surface", "wm_base.get_xdg_surface": "surface"}

// arguments are such as the request may have, mostly right.
func (k *pair) arguments(p *person, name string, object int) []any {
	switch name {
	case "registry.bind":
		g := k.r.Intn(len(globals))
		return []any{g, globals[g].text, 1, k.free(p)}
	case "shm.create_pool":
		return []any{k.free(p), 1 + k.r.Intn(3), k.r.Intn(130)}
	case "pool.create_buffer":
		w, h := k.number()%7, k.number()%7
		return []any{k.free(p), 4 * k.r.Intn(4), w, h, 4*w + 4*k.r.Intn(2), k.r.Intn(13) % 3 % 2 * (1 + k.r.Intn(9)/8)}
	case "pool.resize":
		return []any{k.r.Intn(200)}
	case "xdg_surface.ack_configure":
		return []any{k.serialFor(k.m.s.Waits(p.things[object].n))}
	case "wm_base.pong":
		return []any{k.serialFor([]int{p.pinged})}
	}
	var args []any
	for _, letter := range forms[name].letters {
		switch letter {
		case 'n':
			args = append(args, k.free(p))
		case 'o':
			args = append(args, k.object(p, wants[name]))
		case 's':
			args = append(args, "a title")
		default:
			if n := k.number(); name != "surface.attach" || k.r.Intn(20) == 0 {
				args = append(args, n)
			} else {
				args = append(args, 0)
			}
		}
	}
	return args
}

// serialFor is mostly one of those.
func (k *pair) serialFor(l []int) int {
	if k.r.Intn(9) == 0 {
		return k.r.Intn(k.m.serial + 2)
	}
	return k.some(l)
}

// object is mostly one of that interface.
func (k *pair) object(p *person, face string) int {
	switch k.r.Intn(12) {
	case 0:
		return k.r.Intn(60)
	case 1:
		return 0
	}
	return k.some(p.of(face))
}

// request is any request of a client's.
func (k *pair) request(c int, names []string) {
	p := k.m.person(c)
	if p == nil {
		k.ask(c, "display.sync", 1, 9)
		return
	}
	name := names[k.r.Intn(len(names))]
	// What takes much away comes less often.
	if strings.HasSuffix(name, "destroy") && k.r.Intn(4) > 0 {
		return
	}
	face, _, _ := strings.Cut(name, ".")
	if object := k.some(p.of(face)); object != 0 {
		k.ask(c, name, object, k.arguments(p, name, object)...)
	}
}

// window makes one that is shown, if all goes well.
func (k *pair) window(c int) {
	p := k.m.person(c)
	if p == nil || len(p.of("compositor")) == 0 || len(p.of("wm_base")) == 0 || len(p.of("buffer")) == 0 {
		return
	}
	s := k.free(p)
	if !k.ask(c, "compositor.create_surface", p.of("compositor")[0], s) {
		return
	}
	x := k.free(p)
	if !k.ask(c, "wm_base.get_xdg_surface", p.of("wm_base")[0], x, s) {
		return
	}
	if !k.ask(c, "xdg_surface.get_toplevel", x, k.free(p)) {
		return
	}
	k.ask(c, "surface.commit", s)
	k.ask(c, "xdg_surface.ack_configure", x, k.m.serial)
	k.ask(c, "surface.attach", s, k.some(p.of("buffer")), 0, 0)
	k.ask(c, "surface.commit", s)
}

// sub makes a subsurface somewhere, if all goes well, and at times one with a place or desync.
func (k *pair) sub(c int) {
	p := k.m.person(c)
	if p == nil || len(p.of("compositor")) == 0 || len(p.of("subcompositor")) == 0 || len(p.of("surface")) == 0 {
		return
	}
	parent, s, x := k.some(p.of("surface")), k.free(p), 0
	if !k.ask(c, "compositor.create_surface", p.of("compositor")[0], s) {
		return
	}
	if x = k.free(p); !k.ask(c, "subcompositor.get_subsurface", p.of("subcompositor")[0], x, s, parent) {
		return
	}
	k.ask(c, "subsurface.set_position", x, k.number()-3, k.number()-3)
	if k.r.Intn(2) == 0 {
		k.ask(c, "subsurface.set_desync", x)
	}
	k.ask(c, "surface.attach", s, k.object(p, "buffer"), 0, 0)
	k.ask(c, "surface.commit", s)
	k.ask(c, "surface.commit", parent)
}

// inputRegion gives a surface one, with something in it.
func (k *pair) inputRegion(c int) {
	p := k.m.person(c)
	if p == nil || len(p.of("region")) == 0 || len(p.of("surface")) == 0 {
		return
	}
	id, s := k.some(p.of("region")), k.some(p.of("surface"))
	k.ask(c, "region.add", id, k.r.Intn(3)-1, k.r.Intn(3)-1, 1+k.r.Intn(4), 1+k.r.Intn(4))
	k.ask(c, "surface.set_input_region", s, id)
	k.ask(c, "surface.commit", s)
}

// frames lets a surface wait for a frame, and be committed.
func (k *pair) frames(c int) {
	if p := k.m.person(c); p != nil && len(p.of("surface")) > 0 {
		s := k.some(p.of("surface"))
		k.ask(c, "surface.frame", s, k.free(p))
		k.ask(c, "surface.attach", s, k.object(p, "buffer"), 0, 0)
		k.ask(c, "surface.commit", s)
	}
}

// join is one client more, if there is room.
func (k *pair) join() {
	c, e := k.d.Connect()
	if len(k.m.people) == 6 {
		if c != 0 || !just(e, api.ErrFull) {
			k.Fatal(c, e)
		}
		return
	}
	k.m.people = append(k.m.people, &person{number: c, mem: memory.New(), things: map[int]*thing{1: {face: "display"}}})
	k.ask(c, "display.get_registry", 1, 2)
	for i, g := range globals[1:] {
		k.ask(c, "registry.bind", 2, i+1, g.text, g.most, 3+i)
	}
	k.memory(c, 1)
	k.ask(c, "shm.create_pool", 4, 8, 1, 50)
	k.ask(c, "pool.create_buffer", 8, 9, 0, 2, 2, 8, 0)
}

// memory turns a client's memory.
func (k *pair) memory(c, key int) {
	size, p := 50+k.r.Intn(120), k.m.person(c)
	b := make([]byte, size)
	k.r.Read(b)
	b = b[k.r.Intn(size):]
	at := k.r.Intn(4)
	e, f := k.d.Memory(c, key, size), k.d.Write(c, key, at, b)
	if p == nil {
		if !just(e, api.ErrGone) || !just(f, api.ErrGone) {
			k.Fatal(e, f)
		}
		return
	}
	if !just(e, p.mem.Set(key, size)) {
		k.Fatal(e)
	}
	if want := p.mem.Write(key, at, b); !just(f, want) {
		k.Fatal(f, want)
	}
}

// press is a button or a key, in both.
func (k *pair) press() {
	n, on := k.r.Intn(300), k.r.Intn(2)
	if k.r.Intn(3) == 0 {
		k.d.Key(n, on == 1)
		if k.m.keys != 0 {
			k.m.each("keyboard", k.m.keys, "key", k.m.next(), k.m.now, n, on)
		}
		return
	}
	k.d.Button(n, on == 1)
	if k.m.mouse == 0 {
		return
	}
	k.m.each("pointer", k.m.mouse, "button", k.m.next(), k.m.now, n, on)
	root := k.m.mouse
	for k.m.f.Parent(root) != 0 {
		root = k.m.f.Parent(root)
	}
	if on == 1 && slices.Contains(k.m.stack, root) {
		k.m.raise(root)
	}
}

// input is something that comes from outside, in both.
func (k *pair) input() {
	switch k.r.Intn(5) {
	case 0:
		k.press()
	case 1:
		w, h := k.number(), k.number()
		k.d.Resize(w, h)
		if l := k.m.stack; len(l) > 0 {
			n := l[len(l)-1]
			k.m.ask(k.m.people[n/1000-1], n, min(max(w, 0), 1<<24), min(max(h, 0), 1<<24))
		}
	case 2:
		c := 1 + k.r.Intn(7)
		k.d.Ping(c)
		if p := k.m.person(c); p != nil && p.pinged == 0 && len(p.of("wm_base")) > 0 {
			p.pinged, p.since = k.m.next(), k.m.ticks
			p.say("wm_base", p.of("wm_base")[0], "ping", p.pinged)
		}
	default:
		x, y := k.r.Intn(20)-1, k.r.Intn(14)-1
		// Mostly to where something is.
		if l := k.m.views(); len(l) > 0 && k.r.Intn(4) > 0 {
			v := l[k.r.Intn(len(l))]
			x, y = v.X+k.r.Intn(3), v.Y+k.r.Intn(3)
		}
		k.d.Motion(x, y)
		k.m.x, k.m.y = min(max(x, -1<<24), 1<<24), min(max(y, -1<<24), 1<<24)
		k.m.look(true)
	}
}

// P26.1 to P26.5, T2, T3, T5: whatever comes, a desk is what the document says, step by step.
func TestModel(t *testing.T) {
	var names []string
	for name := range forms {
		names = append(names, name)
	}
	slices.Sort(names)
	// What windows are made of by chance alone is rare: more of it.
	for range 3 {
		names = append(names, "surface.attach", "surface.commit", "surface.commit", "surface.frame", "subsurface.set_position", "xdg_surface.ack_configure", "pool.create_buffer", "subcompositor.get_subsurface", "region.add")
	}
	for seed := range 150 {
		k := &pair{begin(t, 0), newModel(), rand.New(rand.NewSource(int64(seed)))}
		k.join()
		for step := range 400 {
			c := 1 + k.r.Intn(len(k.m.people))
			switch n := k.r.Intn(400); {
			case n < 2:
				k.join()
			case n < 4 && step > 100:
				k.d.Drop(c)
				if p := k.m.person(c); p != nil {
					k.m.drop(p)
				}
			case n < 10:
				k.memory(c, 1+k.r.Intn(3))
			case n < 22:
				k.window(c)
			case n < 50:
				k.frames(c)
			case n < 90:
				k.input()
			case n < 98:
				k.sub(c)
			case n < 102:
				k.inputRegion(c)
			case n < 122:
				time := k.r.Intn(1<<33) - 1<<32
				if got, want := k.d.Tick(time), k.m.tick(time); !slices.Equal(got, want) {
					t.Fatal(seed, step, got, want)
				}
			default:
				k.request(c, names)
			}
			k.same()
		}
	}
}
