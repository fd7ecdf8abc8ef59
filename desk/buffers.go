package desk

import (
	"slices"

	"tableau/api"
)

// makePool does what a shm is asked: a pool of that size, over that memory.
func (d *Desk) makePool(c *client, m api.Msg) error {
	id, key, size := m.Args[0].N, m.Args[1].N, m.Args[2].N
	if err := d.store.Pool(c.of(id), key, size, c.memory.Size(key)); err != nil {
		return err
	}
	c.keys[id] = key
	return nil
}

// askPool does what a pool is asked.
func (d *Desk) askPool(c *client, m api.Msg) error {
	switch m.Op {
	case poolCreateBuffer:
		return d.makeBuffer(c, m)
	case poolDestroy:
		return d.dropPool(c, m.Object)
	case poolResize:
		return d.store.Resize(c.of(m.Object), m.Args[0].N, c.memory.Size(c.keys[m.Object]))
	}
	return nil
}

// dropPool takes a pool away.
func (d *Desk) dropPool(c *client, id int) error {
	delete(c.keys, id)
	return d.store.DropPool(c.of(id))
}

// makeBuffer makes a buffer in a pool. Its number is used up only by being made.
func (d *Desk) makeBuffer(c *client, m api.Msg) error {
	id, offset, w, h := m.Args[0].N, m.Args[1].N, m.Args[2].N, m.Args[3].N
	stride, format := m.Args[4].N, m.Args[5].N
	n := d.made + 1
	if err := d.store.Buffer(n, c.of(m.Object), offset, w, h, stride, format); err != nil {
		return err
	}
	d.made = n
	d.owners[n] = owner{client: c.number, object: id}
	c.buffers[id] = n
	return nil
}

// dropBuffer does what a buffer is asked. Who holds it shows it still.
func (d *Desk) dropBuffer(c *client, id int) error {
	n := c.buffers[id]
	if err := d.store.DropBuffer(n); err != nil {
		return err
	}
	delete(c.buffers, id)
	if !slices.Contains(d.uses.Held(), n) {
		d.forget(n)
	}
	return nil
}
