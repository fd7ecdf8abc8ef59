package desk

import (
	"errors"

	"tableau/api"
	"tableau/fault"
	"tableau/sig"
	"tableau/wire"
)

// global is what may be bound, and the greatest version it has. Its name is its place, from 1 on.
type global struct {
	face, version int
}

var globals = [...]global{
	{api.Compositor, 4},
	{api.Shm, 1},
	{api.Subcompositor, 1},
	{api.Seat, 5},
	{api.WmBase, 1},
}

// Handle does what a request says.
func (d *Desk) Handle(client int, r api.Raw) error {
	c := d.client(client)
	if c == nil {
		return api.ErrGone
	}
	if err := d.handle(c, r); err != nil {
		return blame(r.Object, err)
	}
	d.release()
	return nil
}

// blame is a fault of an object, unless the error is one of another object already.
func blame(object int, err error) error {
	var f *api.Fault
	if errors.As(err, &f) {
		return err
	}
	return fault.New(object, fault.Code(err), err)
}

// handle does what a request says, as far as it is one.
func (d *Desk) handle(c *client, r api.Raw) error {
	face := c.objects.Face(r.Object)
	if face == 0 {
		return blame(display, api.ErrObject)
	}
	letters, err := sig.Request(face, r.Op)
	if err != nil {
		return err
	}
	m, err := wire.Get(r, letters)
	if err != nil {
		return err
	}
	if err := c.add(face, m); err != nil {
		return err
	}
	if err := d.do(c, face, m); err != nil {
		c.objects.Drop(made(m))
		return err
	}
	if sig.Ends(face, m.Op) {
		c.end(m.Object)
	}
	return nil
}

// made is the object that a request makes; 0, which is none, if it makes none.
func made(m api.Msg) int {
	for _, a := range m.Args {
		if a.Kind == 'n' {
			return a.N
		}
	}
	return 0
}

// add adds the object that a request makes, if it makes one.
func (c *client) add(face int, m api.Msg) error {
	makes, version := sig.Makes(face, m.Op), c.objects.Version(m.Object)
	if face == api.Registry {
		if !mayBind(m.Args) {
			return api.ErrArg
		}
		makes, version = sig.Face(m.Args[1].S), m.Args[2].N
	}
	if makes == 0 {
		return nil
	}
	if err := c.objects.Add(made(m), makes, version); err != nil {
		return blame(display, err)
	}
	return nil
}

// mayBind tells whether a name is there, with that interface and in that version.
func mayBind(args []api.Arg) bool {
	name, text, version := args[0].N, args[1].S, args[2].N
	if name < 1 || name > len(globals) {
		return false
	}
	g := globals[name-1]
	return text == sig.Name(g.face) && version >= 1 && version <= g.version
}

// release tells of buffers that nobody holds any more. One whose object is gone was kept for who held it, and is of no use now.
func (d *Desk) release() {
	for _, n := range d.uses.Now(d.surfaces.Held()) {
		if !d.store.Live(n) {
			d.forget(n)
			continue
		}
		o := d.owners[n]
		d.client(o.client).tell(api.Buffer, o.object, bufferRelease)
	}
}

// forget takes a buffer away.
func (d *Desk) forget(buffer int) {
	d.store.Forget(buffer)
	delete(d.owners, buffer)
}

// do does what a request says, where that is more than making an object or ending its own.
func (d *Desk) do(c *client, face int, m api.Msg) error {
	switch face {
	case api.Display:
		c.askDisplay(m, d.serial)
	case api.Registry:
		c.greet(m)
	case api.Compositor:
		return d.askCompositor(c, m)
	case api.Shm:
		return d.makePool(c, m)
	case api.Pool:
		return d.askPool(c, m)
	case api.Buffer:
		return d.dropBuffer(c, m.Object)
	case api.Surface:
		return d.askSurface(c, m)
	case api.Region:
		c.askRegion(m)
	case api.Subcompositor:
		return d.askSubcompositor(c, m)
	case api.Subsurface:
		return d.askSubsurface(c, m)
	case api.WmBase:
		return d.askWmBase(c, m)
	case api.XdgSurface:
		return d.askXdgSurface(c, m)
	case api.Toplevel:
		return d.askToplevel(c, m)
	}
	return nil
}

// askDisplay does what the display is asked.
func (c *client) askDisplay(m api.Msg, serial int) {
	id := m.Args[0].N
	switch m.Op {
	case displaySync:
		c.done(id, serial)
	case displayGetRegistry:
		for i, g := range globals {
			name := api.Arg{Kind: 'u', N: i + 1}
			face := api.Arg{Kind: 's', S: sig.Name(g.face)}
			version := api.Arg{Kind: 'u', N: g.version}
			c.send(api.Registry, id, registryGlobal, name, face, version)
		}
	}
}

// greet tells what an object that was bound can do.
func (c *client) greet(m api.Msg) {
	id := m.Args[3].N
	switch face := c.objects.Face(id); face {
	case api.Shm:
		c.tell(face, id, shmFormat, api.Argb)
		c.tell(face, id, shmFormat, api.Xrgb)
	case api.Seat:
		c.tell(face, id, seatCapabilities, capabilities)
	}
}
