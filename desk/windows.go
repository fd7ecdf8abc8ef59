package desk

import "tableau/api"

// Windows come one beside the other, in steps and rows that begin again.
const (
	stepX, columns = 3, 7
	stepY, rows    = 2, 5
)

// askWmBase does what a wm_base is asked.
func (d *Desk) askWmBase(c *client, m api.Msg) error {
	switch m.Op {
	case wmBaseGetXdgSurface:
		return d.makeWindow(c, m.Args[0].N, m.Args[1].N)
	case wmBasePong:
		c.ping.Pong(m.Args[0].N)
	}
	return nil
}

// makeWindow makes a surface a window.
func (d *Desk) makeWindow(c *client, id, surface int) error {
	if err := c.objects.Want(surface, api.Surface); err != nil {
		return err
	}
	n := c.of(surface)
	if d.surfaces.Parent(n) != 0 {
		return api.ErrRole
	}
	// A buffer that it has counts also where none is to come: it has it till that is committed.
	next := d.coming(n)
	has := d.surfaces.Current(n).Buffer != 0
	comes := next.Attach && next.Buffer != 0
	if err := d.windows.Add(n, has || comes); err != nil {
		return err
	}
	c.windows[id] = n
	return nil
}

// askXdgSurface does what an xdg_surface is asked.
func (d *Desk) askXdgSurface(c *client, m api.Msg) error {
	n := c.windows[m.Object]
	switch m.Op {
	case xdgSurfaceDestroy:
		return d.dropWindow(c, m.Object)
	case xdgSurfaceGetToplevel:
		if err := d.windows.Top(n); err != nil {
			return err
		}
		c.windows[m.Args[0].N] = n
	case xdgSurfaceAckConfigure:
		return d.windows.Ack(n, m.Args[0].N)
	}
	return nil
}

// dropWindow makes a window none.
func (d *Desk) dropWindow(c *client, id int) error {
	if err := d.windows.Drop(c.windows[id]); err != nil {
		return err
	}
	delete(c.windows, id)
	return nil
}

// askToplevel does what a toplevel is asked. A title is taken, and shown nowhere.
func (d *Desk) askToplevel(c *client, m api.Msg) error {
	if m.Op == toplevelDestroy {
		return d.dropToplevel(c, m.Object)
	}
	return nil
}

// dropToplevel makes a toplevel none, and takes it off the screen.
func (d *Desk) dropToplevel(c *client, id int) error {
	n := c.windows[id]
	if err := d.windows.Untop(n); err != nil {
		return err
	}
	delete(c.windows, id)
	d.hide(n)
	return nil
}

// ask asks a window to be so wide and high; 0: as it likes.
func (d *Desk) ask(n, w, h int) {
	c, _ := d.whose(n)
	c.tell(api.Toplevel, c.part(api.Toplevel, n), toplevelConfigure, w, h)
	serial := d.nextSerial()
	c.tell(api.XdgSurface, c.part(api.XdgSurface, n), xdgSurfaceConfigure, serial)
	d.windows.Send(n, serial)
}

// show places a window on the screen, above all others.
func (d *Desk) show(n int) {
	d.places[n] = api.Child{ID: n, X: stepX * (d.placed % columns), Y: stepY * (d.placed % rows)}
	d.placed++
	d.stack.Raise(n)
}

// hide takes a window off the screen.
func (d *Desk) hide(n int) {
	d.stack.Drop(n)
	delete(d.places, n)
}
