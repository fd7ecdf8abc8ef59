package server

import (
	"errors"

	"tableau/api"
)

// Do does an operation.
func (s *Server) Do(o api.Op) error {
	c, err := s.whose(o)
	if err != nil {
		return err
	}
	if err := s.do(c, o); err != nil {
		return err
	}
	s.tell()
	return nil
}

// do does an operation, which may be one of a client.
func (s *Server) do(c *client, o api.Op) error {
	switch o.Kind {
	case api.DoConnect:
		return s.connect()
	case api.DoFeed:
		s.feed(c, o.S)
	case api.DoHang:
		s.hang(c)
	case api.DoMemory:
		return s.desk.Memory(o.A, o.B, o.C)
	case api.DoWrite:
		return s.desk.Write(o.A, o.B, o.C, []byte(o.S))
	case api.DoTick:
		s.tick(o.A)
	case api.DoDrain:
		c.take(o.B)
	default:
		return s.input(o)
	}
	return nil
}

// whose is the client that an operation is one of, if it is one of a client. Of one that is gone there is nothing but what it may read still.
func (s *Server) whose(o api.Op) (*client, error) {
	c := s.client(o.A)
	switch o.Kind {
	case api.DoFeed, api.DoHang, api.DoMemory, api.DoWrite:
		if !s.Alive(o.A) {
			c = nil
		}
		fallthrough
	case api.DoDrain:
		if c == nil {
			return nil, api.ErrGone
		}
	}
	return c, nil
}

// connect adds a client.
func (s *Server) connect() error {
	number, err := s.desk.Connect()
	if err != nil {
		return err
	}
	s.clients[number] = newClient(number, s.room)
	return nil
}

// feed hands a client's messages to the desk, up to the first that is wrong.
func (s *Server) feed(c *client, text string) {
	messages, wrong := c.reader.Feed([]byte(text))
	for _, r := range messages {
		if err := s.desk.Handle(c.number, r); err != nil {
			s.refuse(c, err)
			return
		}
		s.tell()
		if !s.Alive(c.number) {
			return
		}
	}
	if wrong != nil {
		s.refuse(c, wrong)
	}
}

// refuse tells a client what was wrong, behind all else that it is told, and cuts it off.
func (s *Server) refuse(c *client, why error) {
	s.tell()
	c.putError(why)
	s.cutOff(c)
}

// hang lets a client go, with what nobody will read any more.
func (s *Server) hang(c *client) {
	c.queue.Take(c.queue.Len())
	s.cutOff(c)
}

// tick paints the screen, and cuts off who is late, with what that tick has for it.
func (s *Server) tick(time int) {
	late := s.desk.Tick(time)
	s.tell()
	for _, number := range late {
		if c := s.client(number); c != nil {
			s.cutOff(c)
		}
	}
}

// input does what comes neither of a client nor of time.
func (s *Server) input(o api.Op) error {
	on := o.B != 0
	switch o.Kind {
	case api.DoMotion:
		s.desk.Motion(o.A, o.B)
	case api.DoButton:
		s.desk.Button(o.A, on)
	case api.DoKey:
		s.desk.Key(o.A, on)
	case api.DoResize:
		s.desk.Resize(o.A, o.B)
	case api.DoPing:
		s.desk.Ping(o.A)
	default:
		return api.ErrArg
	}
	return nil
}

// tell puts what was sent to the clients into their queues, and cuts off those that have no room for it.
func (s *Server) tell() {
	for _, c := range s.clients {
		if c != nil && s.full(c) {
			s.cutOff(c)
		}
	}
}

// full tells whether a client has no room for what was sent to it. What there is room for is put in its queue.
func (s *Server) full(c *client) bool {
	for _, e := range s.desk.Events(c.number) {
		if errors.Is(c.put(e.Face, e.Msg), api.ErrFull) {
			return true
		}
	}
	return false
}

// cutOff takes all from a client but what it may read still.
func (s *Server) cutOff(c *client) {
	s.desk.Drop(c.number)
	c.queue.Close()
	c.reader = nil
}
