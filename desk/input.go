package desk

import (
	"slices"

	"tableau/api"
	"tableau/seat"
	"tableau/views"
	"tableau/word"
)

// Motion moves the pointer.
func (d *Desk) Motion(x, y int) {
	d.tellFocus(api.Pointer, d.seat.Move(x, y, views.Hits(d.surfaces, d.Views())))
}

// Button presses a button, or lets it go.
func (d *Desk) Button(button int, on bool) {
	surface, _ := d.seat.Focus()
	if surface == 0 {
		return
	}
	d.press(api.Pointer, pointerButton, surface, button, on)
	root := views.Root(d.surfaces, surface)
	if on && slices.Contains(d.stack.All(), root) {
		d.stack.Raise(root)
	}
}

// Key presses a key, or lets it go.
func (d *Desk) Key(key int, on bool) {
	if _, surface := d.seat.Focus(); surface != 0 {
		d.press(api.Keyboard, keyboardKey, surface, key, on)
	}
}

// press tells the client that has a focus of a button or a key. The serial is a new one also where nobody listens.
func (d *Desk) press(face, op, surface, code int, on bool) {
	pressed := 0
	if on {
		pressed = 1
	}
	c, _ := d.whose(surface)
	c.tellEach(face, op, d.nextSerial(), d.time, modulo(code), pressed)
}

// modulo is a number as one of 32 bits, without a sign.
func modulo(n int) int { return int(uint32(n)) }

// tellFocus tells clients what the seat notes of the pointer, or of the keys.
func (d *Desk) tellFocus(face int, notes []seat.Note) {
	for _, n := range notes {
		c, surface := d.whose(n.Surface)
		x, y := int(word.Fixed(n.X)), int(word.Fixed(n.Y))
		switch {
		case n.Kind == seat.Motion:
			c.tellEach(face, pointerMotion, d.time, x, y)
		case n.Kind == seat.Leave:
			c.tellEach(face, focusLeave, d.nextSerial(), surface)
		case face == api.Keyboard:
			c.tellEach(face, focusEnter, d.nextSerial(), surface)
		default:
			c.tellEach(face, focusEnter, d.nextSerial(), surface, x, y)
		}
	}
}

// Resize asks the topmost window to be so wide and high.
func (d *Desk) Resize(w, h int) {
	if n := d.stack.Top(); n != 0 {
		d.ask(n, side(w), side(h))
	}
}

// side is the nearest number that a window's side may be asked to have.
func side(n int) int { return min(max(n, 0), api.MaxEdge) }

// Ping asks a client whether it is there.
func (d *Desk) Ping(client int) {
	c := d.client(client)
	if c == nil {
		return
	}
	bases := c.objects.Of(api.WmBase)
	// Asked ahead of Ask: a serial that is not sent would be used up.
	if _, waits := c.ping.Waits(); waits || len(bases) == 0 {
		return
	}
	serial := d.nextSerial()
	c.ping.Ask(serial, d.ticks)
	c.tell(api.WmBase, bases[0], wmBasePing, serial)
}
