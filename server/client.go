package server

import (
	"errors"
	"strings"

	"tableau/api"
	"tableau/fault"
	"tableau/queue"
	"tableau/reader"
	"tableau/sig"
	"tableau/wire"
)

// display is the number of the object that each client has from the beginning on.
const display = 1

// displayError is the event that tells a client that it was wrong.
const displayError = 0

// client is the bytes of one client.
type client struct {
	number int
	reader *reader.Reader // nil, when it is cut off
	queue  *queue.Queue
	read   strings.Builder
}

// newClient is a client that has sent nothing, and was told nothing.
func newClient(number, room int) *client {
	return &client{number: number, reader: reader.New(), queue: queue.New(room)}
}

// take lets the client read bytes that wait for it.
func (c *client) take(n int) { c.read.Write(c.queue.Take(n)) }

// put puts an event behind all that waits.
func (c *client) put(face int, m api.Msg) error {
	letters, err := sig.Event(face, m.Op)
	if err != nil {
		return err
	}
	b, err := wire.Put(m, letters)
	if err != nil {
		return err
	}
	return c.queue.Put(b)
}

// putError puts what was wrong behind all that waits. Where there is no room for it, it is not told.
func (c *client) putError(why error) {
	f := blame(why)
	c.put(api.Display, api.Msg{Object: display, Op: displayError, Args: []api.Arg{
		{Kind: 'o', N: f.Object},
		{Kind: 'u', N: f.Code},
		{Kind: 's', S: f.Text},
	}})
}

// blame is the fault in an error; one that is found ahead of any object is the display's.
func blame(err error) *api.Fault {
	var f *api.Fault
	if !errors.As(err, &f) {
		f = &api.Fault{Object: display, Code: fault.Code(err), Text: err.Error()}
	}
	return f
}
