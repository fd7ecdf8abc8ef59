package desk

import (
	"maps"

	"tableau/api"
	"tableau/ids"
	"tableau/memory"
	"tableau/ping"
	"tableau/sig"
)

// display is the number of the object that each client has from the beginning on.
const display = 1

// client is what one client has. Its maps are by objects.
type client struct {
	number  int
	objects *ids.Table
	memory  *memory.Memory
	ping    *ping.Ping
	events  []Event
	keys    map[int]int        // of a pool: its memory's key
	buffers map[int]int        // of a buffer: its number
	regions map[int][]api.Rect // of a region: what it is now
	subs    map[int]int        // of a subsurface that does something still: its surface's number
	windows map[int]int        // of an xdg_surface, a toplevel: its surface's number
}

// newClient is a client that has the display alone.
func newClient(number int) *client {
	return &client{
		number:  number,
		objects: ids.New(),
		memory:  memory.New(),
		ping:    ping.New(),
		keys:    map[int]int{},
		buffers: map[int]int{},
		regions: map[int][]api.Rect{},
		subs:    map[int]int{},
		windows: map[int]int{},
	}
}

// of is the number of a client's object.
func (c *client) of(object int) int { return each*c.number + object }

// send sends an event.
func (c *client) send(face, object, op int, args ...api.Arg) {
	c.events = append(c.events, Event{Face: face, Msg: api.Msg{Object: object, Op: op, Args: args}})
}

// tell sends an event whose arguments are numbers alone.
func (c *client) tell(face, object, op int, numbers ...int) {
	letters, _ := sig.Event(face, op)
	var args []api.Arg
	for i, n := range numbers {
		args = append(args, api.Arg{Kind: letters[i], N: n})
	}
	c.send(face, object, op, args...)
}

// tellEach sends an event to each object of an interface.
func (c *client) tellEach(face, op int, numbers ...int) {
	for _, id := range c.objects.Of(face) {
		c.tell(face, id, op, numbers...)
	}
}

// end ends an object: the client is told, since its number may come again.
func (c *client) end(object int) {
	c.objects.Drop(object)
	c.tell(api.Display, display, displayDeleteID, object)
}

// done ends a callback, with what it was waiting for.
func (c *client) done(callback, with int) {
	c.tell(api.Callback, callback, callbackDone, with)
	c.end(callback)
}

// part is the object by which a window is known as that interface.
func (c *client) part(face, window int) int {
	for _, id := range c.objects.Of(face) {
		if c.windows[id] == window {
			return id
		}
	}
	return 0
}

// disown lets the subsurfaces that are so do nothing any more.
func (c *client) disown(are func(surface int) bool) {
	maps.DeleteFunc(c.subs, func(_, surface int) bool { return are(surface) })
}
