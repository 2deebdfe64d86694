package herald_test

import (
	"cmp"
	"maps"
	"math/rand"
	"reflect"
	"slices"
	"testing"

	"herald/api"
	"herald/filter"
	"herald/herald"
)

// model is the document's words on the tree once more, as plain as can be: at each change it asks P7 of everything anew.
type model struct {
	brokers int
	near    map[[2]int]bool
	clients map[int]int
	held    []map[api.Key]stock
	waiting map[[2]int][]word
	inbox   map[int][]api.Event
	lost    map[int]int
}

// stock is a filter that is held, and its side (-1: a client there).
type stock struct {
	filter api.Filter
	side   int
}

// word tells a filter, or an event, or takes back a key.
type word struct {
	kind   string
	key    api.Key
	filter api.Filter
	event  api.Event
}

func newModel(brokers int, edges [][2]int) *model {
	m := &model{brokers, map[[2]int]bool{}, map[int]int{}, nil, map[[2]int][]word{}, map[int][]api.Event{}, map[int]int{}}
	for range brokers {
		m.held = append(m.held, map[api.Key]stock{})
	}
	for _, e := range edges {
		m.near[e], m.near[[2]int{e[1], e[0]}] = true, true
	}
	return m
}

func (m *model) Attach(client, broker int) api.Errno {
	_, there := m.clients[client]
	switch {
	case broker < 0 || broker >= m.brokers:
		return api.ErrNone
	case there:
		return api.ErrTwice
	case len(m.clients) == maxClients:
		return api.ErrFull
	}
	m.clients[client] = broker
	return api.OK
}

func (m *model) Subscribe(client, id int, f api.Filter) api.Errno {
	b, there := m.clients[client]
	if !there {
		return api.ErrNone
	}
	_, twice := m.held[b][key(client, id)]
	n := 0
	for _, held := range m.held {
		for _, s := range held {
			if s.side == -1 {
				n++
			}
		}
	}
	switch {
	case filter.Check(f) != api.OK:
		return api.ErrFilter
	case twice:
		return api.ErrTwice
	case n == maxFilters:
		return api.ErrFull
	}
	m.change(b, func() { m.held[b][key(client, id)] = stock{slices.Clone(f), -1} })
	return api.OK
}

func (m *model) Unsubscribe(client, id int) api.Errno {
	b, there := m.clients[client]
	if !there {
		return api.ErrNone
	}
	if _, has := m.held[b][key(client, id)]; !has {
		return api.ErrNone
	}
	m.change(b, func() { delete(m.held[b], key(client, id)) })
	return api.OK
}

// told: P7's first sentence.
func (m *model) told(b, n int) map[api.Key]api.Filter {
	others := map[api.Key]api.Filter{}
	for k, s := range m.held[b] {
		if s.side != n {
			others[k] = s.filter
		}
	}
	out := maps.Clone(others)
	for k, f := range others {
		for l, g := range others {
			covers, covered := filter.Covers(g, f), filter.Covers(f, g)
			lesser := l.Client < k.Client || l.Client == k.Client && l.Id < k.Id
			if l != k && (covers && !covered || covers && covered && lesser) {
				delete(out, k)
			}
		}
	}
	return out
}

// change: P7's second sentence.
func (m *model) change(b int, how func()) {
	was := map[int]map[api.Key]api.Filter{}
	for n := range m.brokers {
		was[n] = m.told(b, n)
	}
	how()
	for n := range m.brokers {
		if !m.near[[2]int{b, n}] {
			continue
		}
		is, link := m.told(b, n), [2]int{b, n}
		for _, k := range rising(is) {
			if _, before := was[n][k]; !before {
				m.waiting[link] = append(m.waiting[link], word{kind: "tell", key: k, filter: is[k]})
			}
		}
		for _, k := range rising(was[n]) {
			if _, after := is[k]; !after {
				m.waiting[link] = append(m.waiting[link], word{kind: "back", key: k})
			}
		}
	}
}

func rising[V any](l map[api.Key]V) []api.Key {
	return slices.SortedFunc(maps.Keys(l), func(x, y api.Key) int {
		if x.Client != y.Client {
			return cmp.Compare(x.Client, y.Client)
		}
		return cmp.Compare(x.Id, y.Id)
	})
}

func (m *model) Step(from, to int) api.Errno {
	link := [2]int{from, to}
	if len(m.waiting[link]) == 0 {
		return api.ErrNone
	}
	w := m.waiting[link][0]
	m.waiting[link] = m.waiting[link][1:]
	switch w.kind {
	case "tell":
		m.change(to, func() { m.held[to][w.key] = stock{w.filter, from} })
	case "back":
		m.change(to, func() {
			if m.held[to][w.key].side == from {
				delete(m.held[to], w.key)
			}
		})
	case "event":
		m.come(to, from, nil, w.event)
	}
	return api.OK
}

func (m *model) Publish(client int, e api.Event) api.Errno {
	b, there := m.clients[client]
	switch {
	case !there:
		return api.ErrNone
	case filter.CheckEvent(e) != api.OK:
		return api.ErrEvent
	}
	m.come(b, -1, []int{client}, slices.Clone(e))
	return api.OK
}

// come: P8, an event that comes from a neighbour, or from a client there, who is in by then.
func (m *model) come(b, from int, by []int, e api.Event) {
	clients, sides := map[int]bool{}, map[int]bool{}
	for k, s := range m.held[b] {
		if l, _ := filter.Match(e, s.filter); len(l) == 1 {
			sides[s.side] = true
			clients[k.Client] = clients[k.Client] || s.side == -1
		}
	}
	for c := range m.clients {
		switch {
		case !clients[c] || slices.Contains(by, c):
		case len(m.inbox[c]) < maxInbox:
			m.inbox[c] = append(m.inbox[c], e)
		default:
			m.lost[c]++
		}
	}
	for n := range m.brokers {
		if n != from && sides[n] {
			m.waiting[[2]int{b, n}] = append(m.waiting[[2]int{b, n}], word{kind: "event", event: e})
		}
	}
}

func (m *model) Inbox(client int) ([]api.Event, int, api.Errno) {
	if _, there := m.clients[client]; !there {
		return nil, 0, api.ErrNone
	}
	l, lost := m.inbox[client], m.lost[client]
	m.inbox[client], m.lost[client] = nil, 0
	return l, lost, api.OK
}

func (m *model) Drain() int {
	for n := 0; ; n++ {
		i := slices.IndexFunc(m.Links(), func(l api.Link) bool { return l.Waiting > 0 })
		if i < 0 {
			return n
		}
		m.Step(m.Links()[i].From, m.Links()[i].To)
	}
}

func (m *model) Links() []api.Link {
	var l []api.Link
	for from := range m.brokers {
		for to := range m.brokers {
			if link := [2]int{from, to}; m.near[link] {
				l = append(l, api.Link{From: from, To: to, Waiting: len(m.waiting[link])})
			}
		}
	}
	return l
}

func (m *model) Held(broker, from int) ([]api.Key, api.Errno) {
	if broker < 0 || broker >= m.brokers || from != -1 && !m.near[[2]int{broker, from}] {
		return nil, api.ErrNone
	}
	l := maps.Clone(m.held[broker])
	maps.DeleteFunc(l, func(_ api.Key, s stock) bool { return s.side != from })
	return rising(l), api.OK
}

// player plays at random, always the same.
type player struct {
	r     *rand.Rand
	tree  *herald.Tree
	model *model
	tally map[string]int
}

func (p *player) client() int {
	l := []int{-1 << 63, 1<<63 - 1, -1, 0, 1, 2, 3, 4, 5, 7, 1 << 40, -1 << 40, 10, 11, 12, 13, 14, 15, 16}
	return l[p.r.Intn(len(l))]
}

// known gives a client that is there, most of the time.
func (p *player) known() int {
	l := slices.Sorted(maps.Keys(p.model.clients))
	if len(l) == 0 || p.r.Intn(4) == 0 {
		return p.client()
	}
	return l[p.r.Intn(len(l))]
}

func (p *player) id() int {
	l := []int{-1 << 63, 1<<63 - 1, -1, 0, 1, 2, 3}
	return l[p.r.Intn(len(l))]
}

// subscribed gives the keys of all filters of clients.
func (p *player) subscribed() []api.Key {
	var l []api.Key
	for b := range p.model.brokers {
		keys, _ := p.model.Held(b, -1)
		l = append(l, keys...)
	}
	return l
}

// filter gives filters of which many cover one another, one way or both; some are none.
func (p *player) filter() api.Filter {
	size := [...]func(int) api.Filter{more, moreEq, equal}
	f := size[p.r.Intn(3)](p.r.Intn(4))
	switch p.r.Intn(12) {
	case 0:
		return nil
	case 1:
		return append(f, want("size", 11, num(1)))
	case 2:
		return anySize()
	case 3, 4:
		return append(f, want("name", api.Prefix, text("ab"[:p.r.Intn(3)])))
	case 5:
		return one("name", api.Part, text("ab"[:p.r.Intn(3)]))
	case 6:
		return append(f, f[0])
	}
	return f
}

// event gives events of which many match many of these filters; some are none.
func (p *player) event() api.Event {
	e := sized(p.r.Intn(5))
	switch p.r.Intn(12) {
	case 0:
		return nil
	case 1:
		return append(e, attr("name", text("ab")))
	case 2:
		return api.Event{attr("name", text("ab"))}
	case 3, 4, 5:
		return api.Event{attr("name", text("cab"[p.r.Intn(3):])), e[0]}
	}
	return e
}

// taken is an answer of Inbox.
type taken struct {
	events []api.Event
	lost   int
	errno  api.Errno
}

func take(x interface {
	Inbox(int) ([]api.Event, int, api.Errno)
}, client int) taken {
	l, lost, k := x.Inbox(client)
	if len(l) == 0 {
		l = nil
	}
	return taken{l, lost, k}
}

// publish makes the call once or many times, so that inboxes fill.
func (p *player) publish(client int, e api.Event) (string, any, any) {
	times := 1
	if p.r.Intn(10) == 0 {
		times = 1 + p.r.Intn(maxInbox)
	}
	got, wanted := p.tree.Publish(client, e), p.model.Publish(client, e)
	for i := 1; i < times && got == wanted; i++ {
		got, wanted = p.tree.Publish(client, e), p.model.Publish(client, e)
	}
	return "Publish", got, wanted
}

func (p *player) turn() (string, any, any) {
	b, c := p.r.Intn(p.model.brokers+2)-1, p.r.Intn(p.model.brokers+2)-1
	client, id, f := p.known(), p.id(), p.filter()
	switch n := p.r.Intn(130); {
	case n < 10:
		client = p.client()
		return "Attach", p.tree.Attach(client, b), p.model.Attach(client, b)
	case n < 33:
		return "Subscribe", p.tree.Subscribe(client, id, f), p.model.Subscribe(client, id, f)
	case n < 40:
		return "Inbox", take(p.tree, client), take(p.model, client)
	case n >= 100:
		return p.publish(client, p.event())
	case n < 60:
		if l := p.subscribed(); len(l) > 0 && p.r.Intn(2) == 0 {
			k := l[p.r.Intn(len(l))]
			client, id = k.Client, k.Id
		}
		return "Unsubscribe", p.tree.Unsubscribe(client, id), p.model.Unsubscribe(client, id)
	case n < 98:
		if l := p.tree.Links(); len(l) > 0 && p.r.Intn(4) > 0 {
			i := p.r.Intn(len(l))
			b, c = l[i].From, l[i].To
		}
		return "Step", p.tree.Step(b, c), p.model.Step(b, c)
	}
	return "Drain", p.tree.Drain(), p.model.Drain()
}

func (p *player) play(t *testing.T, turns int) {
	for i := range turns {
		what, got, wanted := p.turn()
		if !reflect.DeepEqual(got, wanted) {
			t.Fatalf("turn %d, %s: %v, want %v", i, what, got, wanted)
		}
		if x, y := lookAt(p.tree), lookAt(p.model); !reflect.DeepEqual(x, y) {
			t.Fatalf("turn %d, after %s: the tree shows %v, want %v", i, what, x, y)
		}
		p.count(what, got)
	}
	p.model.Drain()
	p.tree.Drain()
	for c := range p.model.clients {
		got, wanted := take(p.tree, c), take(p.model, c)
		if !reflect.DeepEqual(got, wanted) {
			t.Fatalf("at the end, Inbox(%d): %v, want %v", c, got, wanted)
		}
		p.count("Inbox", got)
	}
}

func (p *player) count(what string, answer any) {
	switch a := answer.(type) {
	case api.Errno:
		what += " " + a.Error()
	case taken:
		what += " " + a.errno.Error()
		p.tally["heard"] += len(a.events)
		p.tally["lost"] += a.lost
	}
	p.tally[what]++
}

// randomTree gives edges of a tree, each broker with one of those ahead of it, under mixed numbers and turned either way.
func randomTree(r *rand.Rand, brokers int) [][2]int {
	number := r.Perm(brokers)
	var l [][2]int
	for b := 1; b < brokers; b++ {
		e := [2]int{number[b], number[r.Intn(b)]}
		if r.Intn(2) == 0 {
			e[0], e[1] = e[1], e[0]
		}
		l = append(l, e)
	}
	r.Shuffle(len(l), func(i, j int) { l[i], l[j] = l[j], l[i] })
	return l
}

// TestRandomPlay holds every answer, and all that the tree shows after each call, against the model.
func TestRandomPlay(t *testing.T) {
	tally := map[string]int{}
	for seed := range 60 {
		r := rand.New(rand.NewSource(int64(seed)))
		brokers := 1 + seed%maxBrokers
		edges := randomTree(r, brokers)
		if seed%10 == 0 {
			brokers, edges = 8, both()
		}
		p := &player{r: r, tree: made(t, brokers, edges), model: newModel(brokers, edges), tally: tally}
		p.play(t, 350)
	}
	for what, least := range map[string]int{
		"Attach error 0": 300, "Attach error 5": 50, "Attach error 6": 50, "Attach error 7": 1,
		"Subscribe error 0": 500, "Subscribe error 2": 100, "Subscribe error 5": 100, "Subscribe error 6": 50,
		"Unsubscribe error 0": 300, "Unsubscribe error 5": 500, "Step error 0": 500, "Step error 5": 500, "Drain": 100,
		"Publish error 0": 500, "Publish error 1": 100, "Publish error 5": 100, "Inbox error 0": 500, "Inbox error 5": 100,
		"heard": 1000, "lost": 100,
	} {
		if tally[what] < least {
			t.Errorf("the play has too little of %s: %d", what, tally[what])
		}
	}
}
