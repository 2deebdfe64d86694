package herald

import "herald/api"

// A client is at a broker, and has an inbox; lost counts what came to it when it was full.
type client struct {
	broker int
	inbox  chan api.Event
	lost   int
}

func newClient(broker int) *client {
	return &client{broker: broker, inbox: newInbox()}
}

func newInbox() chan api.Event { return make(chan api.Event, api.MaxInbox) }

// hear puts an event into the inbox, or loses it. Others hear it, too, so this client has a copy of its own.
func (c *client) hear(e api.Event) {
	select {
	case c.inbox <- copyOfEvent(e):
	default:
		c.lost++
	}
}

// empty takes all out of the inbox, and tells how much was lost.
func (c *client) empty() ([]api.Event, int) {
	close(c.inbox)
	var l []api.Event
	for e := range c.inbox {
		l = append(l, e)
	}
	lost := c.lost
	c.inbox, c.lost = newInbox(), 0
	return l, lost
}
