package desk

import (
	"tableau/api"
	"tableau/region"
	"tableau/state"
)

// rectOf is the rectangle of four arguments.
func rectOf(args []api.Arg) api.Rect {
	return api.Rect{X: args[0].N, Y: args[1].N, W: args[2].N, H: args[3].N}
}

// askCompositor does what a compositor is asked. A region needs nothing done: one of which nothing is known has no points.
func (d *Desk) askCompositor(c *client, m api.Msg) error {
	if m.Op == compositorCreateSurface {
		return d.surfaces.Add(c.of(m.Args[0].N))
	}
	return nil
}

// askRegion does what a region is asked.
func (c *client) askRegion(m api.Msg) {
	was := c.regions[m.Object]
	switch m.Op {
	case regionDestroy:
		delete(c.regions, m.Object)
	case regionAdd:
		c.regions[m.Object] = region.Union(was, region.Of(rectOf(m.Args)))
	case regionSubtract:
		c.regions[m.Object] = region.Subtract(was, region.Of(rectOf(m.Args)))
	}
}

// askSurface does what a surface is asked.
func (d *Desk) askSurface(c *client, m api.Msg) error {
	n := c.of(m.Object)
	switch m.Op {
	case surfaceDestroy:
		return d.dropSurface(c, n)
	case surfaceAttach:
		return d.attach(c, n, m.Args)
	case surfaceDamage:
		if r := rectOf(m.Args); r.W > 0 && r.H > 0 {
			return d.surfaces.Damage(n, r)
		}
	case surfaceFrame:
		return d.surfaces.Frame(n, c.of(m.Args[0].N))
	case surfaceSetInputRegion:
		return d.setInput(c, n, m.Args[0].N)
	case surfaceCommit:
		return d.commit(n)
	}
	return nil
}

// dropSurface takes a surface away. The subsurface that it is, and those that are in it, are none any more.
func (d *Desk) dropSurface(c *client, n int) error {
	if d.windows.Has(n) {
		return api.ErrRole
	}
	c.disown(func(surface int) bool { return surface == n || d.surfaces.Parent(surface) == n })
	d.seat.Gone(n)
	return d.surfaces.Drop(n)
}

// attach gives a surface a buffer, or none.
func (d *Desk) attach(c *client, n int, args []api.Arg) error {
	buffer, x, y := args[0].N, args[1].N, args[2].N
	if x != 0 || y != 0 {
		return api.ErrArg
	}
	if buffer == 0 {
		return d.surfaces.Attach(n, 0)
	}
	if err := c.objects.Want(buffer, api.Buffer); err != nil {
		return err
	}
	return d.surfaces.Attach(n, c.buffers[buffer])
}

// setInput says where input comes: within a region, as it is now, or everywhere.
func (d *Desk) setInput(c *client, n, id int) error {
	if id == 0 {
		return d.surfaces.Input(n, true, nil)
	}
	if err := c.objects.Want(id, api.Region); err != nil {
		return err
	}
	return d.surfaces.Input(n, false, c.regions[id])
}

// coming is what a surface's next commit has: what is cached comes with it.
func (d *Desk) coming(n int) api.State {
	return state.Merge(d.surfaces.Cached(n), d.surfaces.Pending(n))
}

// commit commits a surface. A window is asked ahead, since it may be that it may not.
func (d *Desk) commit(n int) error {
	what := 0
	if d.windows.Has(n) {
		next := d.coming(n)
		buffer := next.Buffer
		if !next.Attach {
			buffer = d.surfaces.Current(n).Buffer
		}
		var err error
		if what, err = d.windows.Commit(n, next.Attach, buffer != 0); err != nil {
			return err
		}
	}
	if _, err := d.surfaces.Commit(n); err != nil {
		return err
	}
	switch what {
	case toAsk:
		d.ask(n, 0, 0)
	case toShow:
		d.show(n)
	case toHide:
		d.hide(n)
	}
	return nil
}

// askSubcompositor does what a subcompositor is asked.
func (d *Desk) askSubcompositor(c *client, m api.Msg) error {
	if m.Op != subcompositorGetSubsurface {
		return nil
	}
	id, surface, parent := m.Args[0].N, m.Args[1].N, m.Args[2].N
	for _, s := range []int{surface, parent} {
		if err := c.objects.Want(s, api.Surface); err != nil {
			return err
		}
	}
	n := c.of(surface)
	if d.windows.Has(n) {
		return api.ErrRole
	}
	if err := d.surfaces.Sub(n, c.of(parent)); err != nil {
		return err
	}
	c.subs[id] = n
	return nil
}

// askSubsurface does what a subsurface is asked, if it does anything still.
func (d *Desk) askSubsurface(c *client, m api.Msg) error {
	n, ok := c.subs[m.Object]
	if !ok {
		return nil
	}
	sync := false
	switch m.Op {
	case subsurfaceDestroy:
		delete(c.subs, m.Object)
		return d.surfaces.Unsub(n)
	case subsurfaceSetPosition:
		return d.surfaces.Position(n, m.Args[0].N, m.Args[1].N)
	case subsurfacePlaceAbove:
		return c.put(n, m.Args[0].N, d.surfaces.Above)
	case subsurfacePlaceBelow:
		return c.put(n, m.Args[0].N, d.surfaces.Below)
	case subsurfaceSetSync:
		sync = true
		fallthrough
	case subsurfaceSetDesync:
		return d.surfaces.Sync(n, sync)
	}
	return nil
}

// put puts a subsurface beside another surface.
func (c *client) put(n, by int, beside func(id, by int) error) error {
	if err := c.objects.Want(by, api.Surface); err != nil {
		return err
	}
	return beside(n, c.of(by))
}
