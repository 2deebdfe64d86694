package herald

import "herald/api"

// A message tells an event; or a filter; or, with neither, takes back a key.
type message struct {
	event  api.Event
	key    api.Key
	filter api.Filter
}

func (t *Tree) send(from, to int, m message) {
	link := [2]int{from, to}
	t.links[link] = append(t.links[link], m)
}

// takeFirst takes a message out of a link in which one waits.
func (t *Tree) takeFirst(link [2]int) message {
	queue := t.links[link]
	m := queue[0]
	// The array behind the queue stays for a while: it shall not keep the message.
	queue[0] = message{}
	t.links[link] = queue[1:]
	return m
}

// arrive lets a message come to the broker at the link's end.
func (t *Tree) arrive(link [2]int, m message) {
	from, to := link[0], link[1]
	switch {
	case m.event != nil:
		t.spread(to, side{number: from}, m.event)
	case m.filter != nil:
		t.hold(to, holding{key: m.key, filter: m.filter, from: from})
	default:
		t.drop(to, m.key)
	}
}

// firstThatWaits gives the link whose turn it is for Drain.
func (t *Tree) firstThatWaits() (api.Link, bool) {
	for _, l := range t.Links() {
		if l.Waiting > 0 {
			return l, true
		}
	}
	return api.Link{}, false
}
