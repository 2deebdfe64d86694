package herald_test

import (
	"math"
	"math/rand"
	"slices"
	"testing"

	"herald/api"
	"herald/filter"
	"herald/herald"
)

// two makes brokers 0 - 1 with the clients 1, 2 and 3 at broker 0.
func two(t *testing.T) *herald.Tree {
	x := made(t, 2, row(2))
	attach(t, x, 0, 1, 2, 3)
	return x
}

func TestToldOneWay(t *testing.T) {
	x := two(t)
	subscribe(t, x, 1, 1, more(3))
	outIs(t, x, 0, 1, "+1.1")
	// A narrower one, with a lesser key or a greater one, of the same client or another.
	for _, k := range []api.Key{key(1, 0), key(1, 2), key(2, 1)} {
		subscribe(t, x, k.Client, k.Id, more(5))
		outIs(t, x, 0, 1)
	}
	// A wider one.
	subscribe(t, x, 3, 7, anySize())
	outIs(t, x, 0, 1, "+3.7", "-1.1")
	subscribe(t, x, 2, 2, more(-7))
	outIs(t, x, 0, 1)
	isHeld(t, x, 1, 0, key(3, 7))
	// What was hidden by two comes to light with the second.
	unsubscribe(t, x, 3, 7)
	outIs(t, x, 0, 1, "+2.2", "-3.7")
	unsubscribe(t, x, 1, 1)
	outIs(t, x, 0, 1)
	unsubscribe(t, x, 2, 2)
	outIs(t, x, 0, 1, "+1.0", "-2.2")
	isHeld(t, x, 1, 0, key(1, 0))
}

func TestToldBothWays(t *testing.T) {
	x := two(t)
	subscribe(t, x, 2, 5, more(3))
	outIs(t, x, 0, 1, "+2.5")
	// A greater key, by the client or by the id, is hidden; moreEq(4) and more(3) cover one another.
	subscribe(t, x, 2, 6, moreEq(4))
	subscribe(t, x, 3, 1, moreEq(4))
	subscribe(t, x, 3, math.MinInt, more(3))
	outIs(t, x, 0, 1)
	// A lesser key takes its place.
	subscribe(t, x, 2, 4, moreEq(4))
	outIs(t, x, 0, 1, "+2.4", "-2.5")
	subscribe(t, x, 1, math.MaxInt, more(3))
	outIs(t, x, 0, 1, "+1.9223372036854775807", "-2.4")
	subscribe(t, x, 1, math.MinInt, more(3))
	outIs(t, x, 0, 1, "+1.-9223372036854775808", "-1.9223372036854775807")
	// And back, in the order of the keys.
	unsubscribe(t, x, 1, math.MinInt)
	outIs(t, x, 0, 1, "+1.9223372036854775807", "-1.-9223372036854775808")
	unsubscribe(t, x, 1, math.MaxInt)
	outIs(t, x, 0, 1, "+2.4", "-1.9223372036854775807")
	unsubscribe(t, x, 2, 5)
	outIs(t, x, 0, 1)
	unsubscribe(t, x, 2, 4)
	outIs(t, x, 0, 1, "+2.6", "-2.4")
	unsubscribe(t, x, 2, 6)
	outIs(t, x, 0, 1, "+3.-9223372036854775808", "-2.6")
	unsubscribe(t, x, 3, math.MinInt)
	outIs(t, x, 0, 1, "+3.1", "-3.-9223372036854775808")
	unsubscribe(t, x, 3, 1)
	outIs(t, x, 0, 1, "-3.1")
}

func TestToldNotAtAll(t *testing.T) {
	x := two(t)
	filters := []api.Filter{
		equal(1), equal(2), one("name", api.Any, api.Value{}), one("name", api.Prefix, text("a")), more(5), one("size", api.Less, num(1)),
		{want("size", api.LessEq, num(1)), want("name", api.Suffix, text("a"))},
	}
	// None covers another one, but for the third, which covers the fourth and the last.
	told := [][]string{{"+1.0"}, {"+1.1"}, {"+1.2"}, nil, {"+1.4"}, {"+1.5"}, nil}
	for i, f := range filters {
		subscribe(t, x, 1, i, f)
		outIs(t, x, 0, 1, told[i]...)
	}
	for _, id := range []int{4, 0, 1} {
		unsubscribe(t, x, 1, id)
		outIs(t, x, 0, 1, "-1."+string(rune('0'+id)))
	}
	unsubscribe(t, x, 1, 2)
	outIs(t, x, 0, 1, "+1.3", "+1.6", "-1.2")
}

// TestToldOrder: filters by rising keys, then what is taken back by rising keys, whatever the order in which they came.
func TestToldOrder(t *testing.T) {
	keys := []api.Key{key(-8, 3), key(-8, 4), key(1, -2), key(1, 9), key(2, -9), key(2, 0), key(30, 1), key(30, 2)}
	r := rand.New(rand.NewSource(3))
	for range 20 {
		x := made(t, 2, row(2))
		attach(t, x, 0, 30, 2, 1, -8, 7)
		for _, i := range r.Perm(len(keys)) {
			subscribe(t, x, keys[i].Client, keys[i].Id, equal(i))
			goesOut(t, x, 0, 1)
		}
		subscribe(t, x, 7, 7, anySize())
		outIs(t, x, 0, 1, "+7.7", "--8.3", "--8.4", "-1.-2", "-1.9", "-2.-9", "-2.0", "-30.1", "-30.2")
		unsubscribe(t, x, 7, 7)
		outIs(t, x, 0, 1, "+-8.3", "+-8.4", "+1.-2", "+1.9", "+2.-9", "+2.0", "+30.1", "+30.2", "-7.7")
	}
}

// TestToldLayers: where one hides another that hides a third, only the widest is told, and they come to light one by one.
func TestToldLayers(t *testing.T) {
	x := two(t)
	for n := range 5 {
		subscribe(t, x, 1, n, more(-n))
	}
	outIs(t, x, 0, 1, "+1.0", "+1.1", "-1.0", "+1.2", "-1.1", "+1.3", "-1.2", "+1.4", "-1.3")
	unsubscribe(t, x, 1, 2)
	unsubscribe(t, x, 1, 0)
	outIs(t, x, 0, 1)
	unsubscribe(t, x, 1, 4)
	outIs(t, x, 0, 1, "+1.3", "-1.4")
	unsubscribe(t, x, 1, 3)
	outIs(t, x, 0, 1, "+1.1", "-1.3")
	// Some come to light at once, the rest stays hidden by these.
	subscribe(t, x, 1, 8, more(4))
	subscribe(t, x, 1, 9, one("size", api.Less, num(0)))
	subscribe(t, x, 2, 0, anySize())
	outIs(t, x, 0, 1, "+1.9", "+2.0", "-1.1", "-1.9")
	unsubscribe(t, x, 2, 0)
	outIs(t, x, 0, 1, "+1.1", "+1.9", "-2.0")
}

// TestToldSameKeyAgain: under the key of one that was taken back comes another filter.
func TestToldSameKeyAgain(t *testing.T) {
	x := made(t, 3, row(3))
	attach(t, x, 0, 1)
	subscribe(t, x, 1, 1, more(1))
	unsubscribe(t, x, 1, 1)
	subscribe(t, x, 1, 1, more(2))
	waits(t, x, [3]int{0, 1, 3})
	outIs(t, x, 0, 1, "+1.1", "-1.1", "+1.1")
	outIs(t, x, 1, 2, "+1.1", "-1.1", "+1.1")
	// It is the second one that is there: more(1) is not covered by it.
	attach(t, x, 1, 2)
	subscribe(t, x, 2, 2, more(1))
	outIs(t, x, 1, 2, "+2.2", "-1.1")
}

// TestToldInARow: what goes on from broker to broker, and what stays behind on the way.
func TestToldInARow(t *testing.T) {
	x := made(t, 4, row(4))
	attach(t, x, 0, 10)
	attach(t, x, 2, 20)
	attach(t, x, 3, 30)
	subscribe(t, x, 20, 1, more(5))
	waits(t, x, [3]int{2, 1, 1}, [3]int{2, 3, 1})
	outIs(t, x, 2, 1, "+20.1")
	outIs(t, x, 1, 0, "+20.1")
	outIs(t, x, 2, 3, "+20.1")
	waits(t, x)
	// From the end: hidden at 2 towards 1, but not ahead of it.
	subscribe(t, x, 30, 1, more(6))
	waits(t, x, [3]int{3, 2, 1})
	outIs(t, x, 3, 2, "+30.1")
	waits(t, x)
	isHeld(t, x, 2, 3, key(30, 1))
	isHeld(t, x, 2, -1, key(20, 1))
	isHeld(t, x, 1, 2, key(20, 1))
	// From the other end: what came from there hides nothing there.
	subscribe(t, x, 10, 1, more(0))
	outIs(t, x, 0, 1, "+10.1")
	waits(t, x, [3]int{1, 2, 1})
	outIs(t, x, 1, 2, "+10.1")
	waits(t, x, [3]int{2, 3, 2})
	outIs(t, x, 2, 3, "+10.1", "-20.1")
	waits(t, x)
	isHeld(t, x, 3, 2, key(10, 1))
	isHeld(t, x, 0, 1, key(20, 1))
	// What was hidden at 2 comes to light there, and goes on.
	unsubscribe(t, x, 20, 1)
	waits(t, x, [3]int{2, 1, 2})
	outIs(t, x, 2, 1, "+30.1", "-20.1")
	outIs(t, x, 1, 0, "+30.1", "-20.1")
	waits(t, x)
	// And what was hidden from 3 by the wide one, only when that is gone.
	subscribe(t, x, 20, 2, more(1))
	outIs(t, x, 2, 1, "+20.2", "-30.1")
	waits(t, x, [3]int{1, 0, 2})
	unsubscribe(t, x, 10, 1)
	outIs(t, x, 0, 1, "-10.1")
	outIs(t, x, 1, 2, "-10.1")
	outIs(t, x, 2, 3, "+20.2", "-10.1")
}

// TestToldInAStar: a filter goes to all but the side from which it came, and is held against those of all other sides.
func TestToldInAStar(t *testing.T) {
	x := made(t, 5, star(5, 2))
	for b := range 5 {
		attach(t, x, b, b)
	}
	subscribe(t, x, 4, 1, more(5))
	waits(t, x, [3]int{4, 2, 1})
	x.Step(4, 2)
	waits(t, x, [3]int{2, 0, 1}, [3]int{2, 1, 1}, [3]int{2, 3, 1})
	x.Drain()
	isHeld(t, x, 4, 2)
	// The same filter from another side: by its lesser key it takes the place of the first, and the first goes where it came from.
	subscribe(t, x, 0, 1, more(5))
	waits(t, x, [3]int{0, 2, 1})
	x.Step(0, 2)
	waits(t, x, [3]int{2, 1, 2}, [3]int{2, 3, 2}, [3]int{2, 4, 1})
	outIs(t, x, 2, 4, "+0.1")
	outIs(t, x, 2, 1, "+0.1", "-4.1")
	outIs(t, x, 2, 3, "+0.1", "-4.1")
	isHeld(t, x, 0, 2, key(4, 1))
	isHeld(t, x, 2, 0, key(0, 1))
	isHeld(t, x, 2, 4, key(4, 1))
	// A client in the middle: its filter is told to all.
	subscribe(t, x, 2, 1, more(0))
	waits(t, x, [3]int{2, 0, 2}, [3]int{2, 1, 2}, [3]int{2, 3, 2}, [3]int{2, 4, 2})
	outIs(t, x, 2, 0, "+2.1", "-4.1")
	outIs(t, x, 2, 1, "+2.1", "-0.1")
	outIs(t, x, 2, 3, "+2.1", "-0.1")
	outIs(t, x, 2, 4, "+2.1", "-0.1")
	// And is taken back from all: each gets what comes to light for it.
	unsubscribe(t, x, 2, 1)
	outIs(t, x, 2, 0, "+4.1", "-2.1")
	outIs(t, x, 2, 1, "+0.1", "-2.1")
	outIs(t, x, 2, 3, "+0.1", "-2.1")
	outIs(t, x, 2, 4, "+0.1", "-2.1")
	unsubscribe(t, x, 0, 1)
	x.Step(0, 2)
	waits(t, x, [3]int{2, 1, 2}, [3]int{2, 3, 2}, [3]int{2, 4, 1})
	outIs(t, x, 2, 1, "+4.1", "-0.1")
	outIs(t, x, 2, 3, "+4.1", "-0.1")
	outIs(t, x, 2, 4, "-0.1")
}

// TestToldInATree: the row and stars of both.
func TestToldInATree(t *testing.T) {
	x := made(t, 8, both())
	attach(t, x, 5, 50)
	attach(t, x, 6, 60)
	attach(t, x, 3, 30)
	attach(t, x, 0, 1)
	subscribe(t, x, 50, 1, moreEq(4))
	waits(t, x, [3]int{5, 2, 1})
	x.Step(5, 2)
	waits(t, x, [3]int{2, 0, 1}, [3]int{2, 4, 1}, [3]int{2, 6, 1})
	x.Step(2, 0)
	waits(t, x, [3]int{0, 7, 1}, [3]int{2, 4, 1}, [3]int{2, 6, 1})
	x.Step(0, 7)
	waits(t, x, [3]int{2, 4, 1}, [3]int{2, 6, 1}, [3]int{7, 1, 1}, [3]int{7, 3, 1})
	if n := x.Drain(); n != 4 {
		t.Fatalf("P9: Drain: %d", n)
	}
	// The same from 6 is hidden at 2 from all but 5.
	subscribe(t, x, 60, 1, more(3))
	x.Step(6, 2)
	waits(t, x, [3]int{2, 5, 1})
	x.Drain()
	// The same from the far end is hidden nowhere on the row: there nothing else comes from that side. Its key is the least, so
	// at 2 it takes the place of 50's for 6, and of 60's for 5, and of neither for 0.
	subscribe(t, x, 30, 1, more(3))
	x.Step(3, 7)
	waits(t, x, [3]int{7, 0, 1}, [3]int{7, 1, 2})
	outIs(t, x, 7, 1, "+30.1", "-50.1")
	x.Step(7, 0)
	waits(t, x, [3]int{0, 2, 1})
	x.Step(0, 2)
	waits(t, x, [3]int{2, 4, 2}, [3]int{2, 5, 2}, [3]int{2, 6, 2})
	outIs(t, x, 2, 4, "+30.1", "-50.1")
	outIs(t, x, 2, 5, "+30.1", "-60.1")
	outIs(t, x, 2, 6, "+30.1", "-50.1")
	waits(t, x)
	// A wider one in the middle of the row.
	subscribe(t, x, 1, 1, anySize())
	outIs(t, x, 0, 2, "+1.1", "-30.1")
	outIs(t, x, 0, 7, "+1.1", "-50.1")
	x.Drain()
	unsubscribe(t, x, 1, 1)
	outIs(t, x, 0, 2, "+30.1", "-1.1")
	outIs(t, x, 0, 7, "+50.1", "-1.1")
	x.Drain()
	isHeld(t, x, 5, 2, key(30, 1))
	isHeld(t, x, 1, 7, key(30, 1))
	isHeld(t, x, 3, 7, key(50, 1))
}

// beyond gives the brokers on the other side of the link from b to n.
func beyond(edges [][2]int, b, n int) []int {
	l := []int{b, n}
	for i := 1; i < len(l); i++ {
		for _, e := range edges {
			for way := range 2 {
				if e[way] == l[i] && !slices.Contains(l, e[1-way]) {
					l = append(l, e[1-way])
				}
			}
		}
	}
	return l[1:]
}

// TestToldWhenQuiet: when nothing waits, each broker holds from each neighbour just those filters of the clients beyond it that
// no other filter of these clients hides; in whichever order the links had their turns.
func TestToldWhenQuiet(t *testing.T) {
	for seed := range 30 {
		r := rand.New(rand.NewSource(int64(seed)))
		brokers := 2 + r.Intn(maxBrokers-1)
		edges := randomTree(r, brokers)
		p := &player{r: r, tree: made(t, brokers, edges), model: newModel(brokers, edges), tally: map[string]int{}}
		all := map[api.Key]stock{}
		for range 150 {
			p.goOn(all)
		}
		for len(p.waitingLinks()) > 0 {
			l := p.waitingLinks()
			i := r.Intn(len(l))
			p.tree.Step(l[i].From, l[i].To)
		}
		for _, l := range p.tree.Links() {
			isHeld(t, p.tree, l.From, l.To, unhidden(all, beyond(edges, l.From, l.To))...)
		}
	}
}

// goOn subscribes, unsubscribes or steps, and keeps in all what is subscribed, with the broker.
func (p *player) goOn(all map[api.Key]stock) {
	client := p.r.Intn(10)
	b := client % p.model.brokers
	p.tree.Attach(client, b)
	k, f := key(client, p.r.Intn(4)), p.filter()
	switch p.r.Intn(4) {
	case 0, 1:
		if p.tree.Subscribe(k.Client, k.Id, f) == api.OK {
			all[k] = stock{f, b}
		}
	case 2:
		if p.tree.Unsubscribe(k.Client, k.Id) == api.OK {
			delete(all, k)
		}
	case 3:
		if l := p.waitingLinks(); len(l) > 0 {
			i := p.r.Intn(len(l))
			p.tree.Step(l[i].From, l[i].To)
		}
	}
}

func (p *player) waitingLinks() []api.Link {
	return slices.DeleteFunc(p.tree.Links(), func(l api.Link) bool { return l.Waiting == 0 })
}

func unhidden(all map[api.Key]stock, brokers []int) []api.Key {
	out := map[api.Key]stock{}
	for k, s := range all {
		hidden := !slices.Contains(brokers, s.side)
		for l, g := range all {
			if l == k || !slices.Contains(brokers, g.side) || !filter.Covers(g.filter, s.filter) {
				continue
			}
			lesser := l.Client < k.Client || l.Client == k.Client && l.Id < k.Id
			hidden = hidden || lesser || !filter.Covers(s.filter, g.filter)
		}
		if !hidden {
			out[k] = s
		}
	}
	return rising(out)
}
