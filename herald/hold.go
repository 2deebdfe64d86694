package herald

import (
	"cmp"
	"slices"

	"herald/api"
	"herald/filter"
)

// itsClients is the side of all clients of a broker.
const itsClients = -1

// A holding is a filter that a broker holds, and the side from which it came: a neighbour, or its clients. A key comes to a
// broker from one side alone, since in a tree one way leads there from its client.
type holding struct {
	key    api.Key
	filter api.Filter
	from   int
}

// A side of a broker is a client there, or a neighbour.
type side struct {
	isClient bool
	number   int
}

func (h holding) side() side {
	if h.from == itsClients {
		return side{isClient: true, number: h.key.Client}
	}
	return side{number: h.from}
}

// hold lets a broker hold a filter more, and sends what follows. Whoever is not hidden by this one is told or not as before, so
// it turns only for this one and those that it hides.
func (t *Tree) hold(b int, h holding) {
	for _, n := range t.neighbours(b) {
		if n == h.from {
			continue
		}
		if t.isTold(b, n, h) {
			t.send(b, n, message{key: h.key, filter: h.filter})
		}
		for _, g := range t.toldWithout(b, n, h) {
			t.send(b, n, message{key: g.key})
		}
	}
	t.held[b][h.key] = h
}

// drop lets a broker hold a filter less, and sends what follows: the reverse of hold.
func (t *Tree) drop(b int, key api.Key) {
	h := t.held[b][key]
	delete(t.held[b], key)
	for _, n := range t.neighbours(b) {
		if n == h.from {
			continue
		}
		for _, g := range t.toldWithout(b, n, h) {
			t.send(b, n, message{key: g.key, filter: g.filter})
		}
		if t.isTold(b, n, h) {
			t.send(b, n, message{key: h.key})
		}
	}
}

// isTold tells whether nothing that a broker holds from other sides than n's hides h from n.
func (t *Tree) isTold(b, n int, h holding) bool {
	for _, g := range t.held[b] {
		if g.from != n && hides(g, h) {
			return false
		}
	}
	return true
}

// toldWithout gives, by rising keys, those that h hides from n and that are told to n where the broker does not hold h.
func (t *Tree) toldWithout(b, n int, h holding) []holding {
	var l []holding
	for _, g := range t.held[b] {
		if g.from != n && hides(h, g) && t.isTold(b, n, g) {
			l = append(l, g)
		}
	}
	slices.SortFunc(l, func(x, y holding) int { return compareKeys(x.key, y.key) })
	return l
}

// hides tells whether g hides h. None hides itself: its key is not less than its own.
func hides(g, h holding) bool {
	if !filter.Covers(g.filter, h.filter) {
		return false
	}
	return !filter.Covers(h.filter, g.filter) || compareKeys(g.key, h.key) < 0
}

func compareKeys(a, b api.Key) int {
	return cmp.Or(cmp.Compare(a.Client, b.Client), cmp.Compare(a.Id, b.Id))
}

// keysFrom gives the rising keys of what a broker holds from a side.
func (t *Tree) keysFrom(b, from int) []api.Key {
	var l []api.Key
	for key, h := range t.held[b] {
		if h.from == from {
			l = append(l, key)
		}
	}
	slices.SortFunc(l, compareKeys)
	return l
}

func (t *Tree) filtersOfClients() int {
	n := 0
	for b := range t.held {
		n += len(t.keysFrom(b, itsClients))
	}
	return n
}
