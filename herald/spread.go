package herald

import (
	"herald/api"
	"herald/filter"
)

// spread lets an event come to a broker from a side: it goes to all other sides that ask for it.
func (t *Tree) spread(b int, from side, e api.Event) {
	for number, c := range t.clients {
		if s := (side{isClient: true, number: number}); s != from && t.asks(b, s, e) {
			c.hear(e)
		}
	}
	for _, n := range t.neighbours(b) {
		if s := (side{number: n}); s != from && t.asks(b, s, e) {
			t.send(b, n, message{event: e})
		}
	}
}

// asks tells whether a broker holds, from a side, a filter that matches an event. From the side of a client that is elsewhere it
// holds none.
func (t *Tree) asks(b int, s side, e api.Event) bool {
	var l []api.Filter
	for _, h := range t.held[b] {
		if h.side() == s {
			l = append(l, h.filter)
		}
	}
	matching, _ := filter.Match(e, l...)
	return len(matching) > 0
}
