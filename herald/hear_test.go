package herald_test

import (
	"math/rand"
	"slices"
	"testing"

	"herald/api"
	"herald/filter"
	"herald/herald"
)

// wishes: which filters each client has, by their ids.
type wishes map[int]map[int]api.Filter

// asks tells whether a client has a filter that matches.
func (w wishes) asks(client int, e api.Event) bool {
	for _, f := range w[client] {
		if l, _ := filter.Match(e, f); len(l) == 1 {
			return true
		}
	}
	return false
}

// comesToThose takes all inboxes after an event: P11. It gives how many have heard it.
func comesToThose(t *testing.T, x *herald.Tree, w wishes, publisher int, e api.Event) int {
	t.Helper()
	heard := 0
	for c := range w {
		var wanted []api.Event
		if c != publisher && w.asks(c, e) {
			wanted = append(wanted, e)
			heard++
		}
		if l, lost, k := x.Inbox(c); !slices.EqualFunc(l, wanted, slices.Equal) || lost != 0 || k != api.OK {
			t.Fatalf("P11: client %d publishes %v: Inbox(%d): %v, %d lost, %d, want %v", publisher, e, c, l, lost, k, wanted)
		}
	}
	return heard
}

// everyTree gives the edges of all trees of that many brokers.
func everyTree(brokers int) [][][2]int {
	var pairs [][2]int
	for a := range brokers {
		for b := range a {
			pairs = append(pairs, [2]int{a, b})
		}
	}
	var trees [][][2]int
	for set := range 1 << len(pairs) {
		var edges [][2]int
		for i, p := range pairs {
			if set>>i&1 == 1 {
				edges = append(edges, p)
			}
		}
		if _, k := herald.New(brokers, edges); k == api.OK {
			trees = append(trees, edges)
		}
	}
	return trees
}

// TestEveryTree: all trees of up to four brokers, with a client at each, and each with each of some choices of filters.
func TestEveryTree(t *testing.T) {
	choices := [][]api.Filter{nil, {more(1)}, {more(2), equal(1)}, {equal(3), moreEq(2)}}
	trees, heard := 0, 0
	for brokers := 1; brokers <= 4; brokers++ {
		for _, edges := range everyTree(brokers) {
			trees++
			for n := range 1 << (2 * brokers) {
				x, w := made(t, brokers, edges), wishes{}
				for c := range brokers {
					attach(t, x, c, c)
					w[c] = map[int]api.Filter{}
					for id, f := range choices[n>>(2*c)&3] {
						subscribe(t, x, c, id, f)
						w[c][id] = f
					}
				}
				x.Drain()
				for publisher := range brokers {
					for size := 1; size < 4; size++ {
						publish(t, x, publisher, sized(size))
						x.Drain()
						heard += comesToThose(t, x, w, publisher, sized(size))
					}
				}
			}
		}
	}
	if trees != 1+1+3+16 || heard < 1000 {
		t.Errorf("the test has only %d trees, %d times something heard", trees, heard)
	}
}

// drawnFilter gives filters over three names and all ways; many cover one another.
func drawnFilter(r *rand.Rand) api.Filter {
	var f api.Filter
	for range 1 + r.Intn(2)*r.Intn(2) {
		s := []string{"", "a", "b", "ab", "ba"}[r.Intn(5)]
		switch way := 1 + r.Intn(10); {
		case way == api.Any:
			f = append(f, want([]string{"name", "size", "up"}[r.Intn(3)], way, api.Value{}))
		case way >= api.Prefix:
			f = append(f, want("name", way, text(s)))
		case way >= api.Less:
			f = append(f, want("size", way, num(r.Intn(5))))
		default:
			v := []api.Value{num(r.Intn(5)), text(s), {Kind: api.Flag, N: r.Intn(2)}}
			i := r.Intn(3)
			f = append(f, want([]string{"size", "name", "up"}[i], way, v[i]))
		}
	}
	return f
}

func drawnEvent(r *rand.Rand) api.Event {
	e := api.Event{
		attr("name", text([]string{"", "a", "ab", "bab", "aba"}[r.Intn(5)])),
		attr("size", num(r.Intn(5))),
		attr("up", api.Value{Kind: api.Flag, N: r.Intn(2)}),
	}
	if r.Intn(4) == 0 {
		i := r.Intn(3)
		e = slices.Delete(e, i, i+1)
	}
	return e
}

// anyTurns lets come what waits, always in a link that is drawn, as many times as are asked for, or until nothing waits.
func anyTurns(r *rand.Rand, x *herald.Tree, atMost int) {
	for range atMost {
		open := slices.DeleteFunc(x.Links(), func(l api.Link) bool { return l.Waiting == 0 })
		if len(open) == 0 {
			return
		}
		l := open[r.Intn(len(open))]
		x.Step(l.From, l.To)
	}
}

// turnFilter subscribes or unsubscribes a filter that is drawn.
func turnFilter(t *testing.T, r *rand.Rand, x *herald.Tree, w wishes) {
	t.Helper()
	c, id := r.Intn(len(w)), r.Intn(4)
	if _, has := w[c][id]; has {
		unsubscribe(t, x, c, id)
		delete(w[c], id)
		return
	}
	w[c][id] = drawnFilter(r)
	subscribe(t, x, c, id, w[c][id])
}

// takeBackWide unsubscribes the filters that hide another client's.
func takeBackWide(t *testing.T, x *herald.Tree, w wishes) int {
	t.Helper()
	n := 0
	for c := range len(w) {
		for id := range 4 {
			f, has := w[c][id]
			if has && hidesAnother(w, c, f) {
				unsubscribe(t, x, c, id)
				delete(w[c], id)
				n++
			}
		}
	}
	return n
}

func hidesAnother(w wishes, client int, f api.Filter) bool {
	for c, filters := range w {
		for _, g := range filters {
			if c != client && filter.Covers(f, g) {
				return true
			}
		}
	}
	return false
}

// TestWhoHears: trees, clients and filters of many shapes, under any turns, also after those filters are taken back that hid others.
func TestWhoHears(t *testing.T) {
	const quiet = 1 << 30
	heard, back := 0, 0
	for seed := range 150 {
		r := rand.New(rand.NewSource(int64(seed)))
		brokers := 1 + r.Intn(maxBrokers)
		x, w := made(t, brokers, randomTree(r, brokers)), wishes{}
		for c := range 1 + r.Intn(maxClients) {
			attach(t, x, r.Intn(brokers), c)
			w[c] = map[int]api.Filter{}
		}
		for round := range 4 {
			for range 20 {
				turnFilter(t, r, x, w)
				anyTurns(r, x, r.Intn(6))
			}
			if round%2 == 1 {
				anyTurns(r, x, r.Intn(quiet))
				back += takeBackWide(t, x, w)
			}
			anyTurns(r, x, quiet)
			for range 10 {
				publisher, e := r.Intn(len(w)), drawnEvent(r)
				publish(t, x, publisher, e)
				anyTurns(r, x, quiet)
				heard += comesToThose(t, x, w, publisher, e)
			}
		}
	}
	if heard < 3000 || back < 500 {
		t.Errorf("the test has too little: %d times something heard, %d filters taken back that hid others", heard, back)
	}
}

// TestEveryOrderOfEvents: several events under way in a tree at once, in each order that the links allow: they all come once, to
// the same clients.
func TestEveryOrderOfEvents(t *testing.T) {
	edges := [][2]int{{0, 1}, {1, 2}, {1, 3}}
	orders, inboxes := 0, map[string]int{}
	var goOn func(turns []api.Link)
	goOn = func(turns []api.Link) {
		x := made(t, 4, edges)
		for b := range 4 {
			attach(t, x, b, b)
			subscribe(t, x, b, 1, more(b))
		}
		x.Drain()
		publish(t, x, 0, sized(3))
		publish(t, x, 3, sized(2))
		publish(t, x, 2, sized(9))
		for _, l := range turns {
			isErr(t, "P9: Step", x.Step(l.From, l.To), api.OK)
		}
		open := slices.DeleteFunc(x.Links(), func(l api.Link) bool { return l.Waiting == 0 })
		for _, l := range open {
			goOn(append(slices.Clone(turns), l))
		}
		if len(open) > 0 {
			return
		}
		orders++
		for b, wanted := range [][]int{{2, 9}, {2, 3, 9}, {3}, {9}} {
			inboxes[inAnyOrder(t, x, b, wanted)]++
		}
	}
	goOn(nil)
	// Both orders at 0, all six at 1, and the one that 2 and 3 can have.
	if orders < 100 || len(inboxes) != 2+6+1+1 {
		t.Errorf("the test has only %d orders of turns, and these of the inboxes: %v", orders, inboxes)
	}
}

// inAnyOrder takes an inbox in which each of these sizes came once, and tells in which order.
func inAnyOrder(t *testing.T, x *herald.Tree, client int, wanted []int) string {
	t.Helper()
	l, lost, k := x.Inbox(client)
	var sizes []int
	order := string(rune('0'+client)) + ":"
	for _, e := range l {
		sizes = append(sizes, e[0].Value.N)
		order += string(rune('0' + e[0].Value.N))
	}
	slices.Sort(sizes)
	if !slices.Equal(sizes, wanted) || lost != 0 || k != api.OK {
		t.Fatalf("P11: Inbox(%d): %s, %d lost, %d, want %v", client, order, lost, k, wanted)
	}
	return order
}
