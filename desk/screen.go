package desk

import (
	"tableau/api"
	"tableau/paint"
	"tableau/views"
)

// Tick paints the screen, and tells who waited for that.
func (d *Desk) Tick(time int) []int {
	d.time = modulo(time)
	d.ticks++
	seen := d.Views()
	paint.All(d.screen, Back, seen, d.images(seen))
	d.doneFrames(seen)
	d.tellFocus(api.Pointer, d.seat.Look(views.Hits(d.surfaces, seen)))
	d.tellFocus(api.Keyboard, d.seat.Keys(d.stack.Top()))
	return d.late()
}

// late are the clients that have let a ping wait too long.
func (d *Desk) late() []int {
	var l []int
	for _, c := range d.clients {
		if c != nil && c.ping.Late(d.ticks) {
			l = append(l, c.number)
		}
	}
	return l
}

// images are what the buffers that are seen have, each once.
func (d *Desk) images(seen []api.View) []paint.Image {
	loaded := map[int]struct{}{}
	var l []paint.Image
	for _, v := range seen {
		info, there := d.store.Info(v.Buffer)
		if _, ok := loaded[v.Buffer]; ok || !there {
			continue
		}
		loaded[v.Buffer] = struct{}{}
		c, _ := d.whose(v.Surface)
		l = append(l, paint.Load(v.Buffer, info, c.memory))
	}
	return l
}

// doneFrames ends the callbacks of frames of what is seen.
func (d *Desk) doneFrames(seen []api.View) {
	for _, v := range seen {
		c, _ := d.whose(v.Surface)
		for _, n := range d.surfaces.Take(v.Surface) {
			if _, callback := d.whose(n); c.objects.Want(callback, api.Callback) == nil {
				c.done(callback, d.time)
			}
		}
	}
}

// Views are the surfaces that are seen.
func (d *Desk) Views() []api.View {
	var roots []api.Child
	for _, n := range d.stack.All() {
		roots = append(roots, d.places[n])
	}
	return views.Of(d.surfaces, roots, d.sizes())
}

// sizes are how wide and high the buffers are, also those that are shown only still.
func (d *Desk) sizes() []views.Size {
	var l []views.Size
	for _, n := range d.store.All() {
		if info, ok := d.store.Info(n); ok {
			l = append(l, views.Size{Buffer: n, W: info.W, H: info.H})
		}
	}
	return l
}

// Screen are the screen's points.
func (d *Desk) Screen() []uint32 { return d.screen.Pixels() }
