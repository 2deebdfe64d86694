package herald_test

import (
	"fmt"
	"math"
	"reflect"
	"slices"
	"strings"
	"testing"

	"herald/api"
	"herald/herald"
)

// greatest: an event at all its limits.
func greatest() api.Event {
	e := api.Event{
		attr("a", num(math.MinInt)), attr("aa", num(math.MaxInt)), attr("ab", text("")), attr("b", text(strings.Repeat("\xff", 32))),
		attr("size", num(0)), attr("up", api.Value{Kind: api.Flag, N: 1}), attr("v", api.Value{Kind: api.Flag}),
	}
	return append(e, attr(strings.Repeat("z", 16), text("\x00a\n")))
}

// noEvents: lists that are no events, each for one reason.
func noEvents() []api.Event {
	return []api.Event{
		nil,
		{},
		{attr("", num(1))},
		{attr("Size", num(1))},
		{attr(strings.Repeat("z", 17), num(1))},
		{attr("size", api.Value{})},
		{attr("size", api.Value{Kind: 4})},
		{attr("size", api.Value{Kind: api.Int, S: "x"})},
		{attr("size", api.Value{Kind: api.Flag, N: 2})},
		{attr("size", text(strings.Repeat("x", 33)))},
		{attr("size", num(1)), attr("size", num(1))},
		{attr("size", num(1)), attr("name", num(1))},
		{attr("size", num(1)), attr("up", api.Value{})},
		slices.Insert(greatest(), 4, attr("c", num(1))),
	}
}

func TestPublishErrors(t *testing.T) {
	x := made(t, 2, row(2))
	for _, c := range append(oddNumbers(), 0, 1) {
		isErr(t, "P8: Publish without clients", x.Publish(c, sized(1)), api.ErrNone)
		isErr(t, "P8: Publish without clients, of no event", x.Publish(c, nil), api.ErrNone)
	}
	attach(t, x, 0, 5, 6)
	attach(t, x, 1, 7)
	for c := 5; c < 8; c++ {
		subscribe(t, x, c, 1, anySize())
		subscribe(t, x, c, 2, one("a", api.Any, api.Value{}))
	}
	x.Drain()
	for _, e := range noEvents() {
		isErr(t, fmt.Sprintf("P8: Publish of no event, %v", e), x.Publish(5, e), api.ErrEvent)
		isErr(t, fmt.Sprintf("P8: Publish of nobody, and of no event, %v", e), x.Publish(4, e), api.ErrNone)
	}
	for _, c := range append(oddNumbers(), 0, 1, 4) {
		isErr(t, "P8: Publish of nobody", x.Publish(c, sized(1)), api.ErrNone)
	}
	waits(t, x)
	for c := 5; c < 8; c++ {
		hears(t, x, c)
	}
}

// TestPublishGreatest: an event at its limits comes whole, here and over links.
func TestPublishGreatest(t *testing.T) {
	x := made(t, 3, row(3))
	attach(t, x, 0, 1, 2)
	attach(t, x, 2, 3)
	subscribe(t, x, 2, 1, one("b", api.Suffix, text("\xff")))
	subscribe(t, x, 3, 1, one("a", api.Equal, num(math.MinInt)))
	x.Drain()
	publish(t, x, 1, greatest())
	x.Drain()
	for _, c := range []int{2, 3} {
		if l, lost, k := x.Inbox(c); len(l) != 1 || !slices.Equal(l[0], greatest()) || lost != 0 || k != api.OK {
			t.Errorf("P8: Inbox(%d): %v, %d, %d", c, l, lost, k)
		}
	}
}

func TestPublishHere(t *testing.T) {
	x := made(t, 1, nil)
	attach(t, x, 0, 1, 2, 3, 4, -1, math.MinInt, math.MaxInt)
	subscribe(t, x, 1, 1, more(3))
	subscribe(t, x, 2, 1, equal(5))
	subscribe(t, x, 2, 2, equal(6))
	subscribe(t, x, 3, 1, one("name", api.Any, api.Value{}))
	subscribe(t, x, -1, 1, anySize())
	subscribe(t, x, math.MinInt, 1, equal(5))
	subscribe(t, x, math.MaxInt, 1, equal(6))
	publish(t, x, 4, sized(5))
	publish(t, x, 4, sized(6))
	publish(t, x, 4, sized(3))
	hears(t, x, 1, 5, 6)
	hears(t, x, 2, 5, 6)
	hears(t, x, 3)
	hears(t, x, 4)
	hears(t, x, -1, 5, 6, 3)
	hears(t, x, math.MinInt, 5)
	hears(t, x, math.MaxInt, 6)
}

// TestPublishOnce: several filters of one client match, the same ones too.
func TestPublishOnce(t *testing.T) {
	x := made(t, 2, row(2))
	attach(t, x, 0, 1, 2)
	attach(t, x, 1, 3)
	for id := range 10 {
		subscribe(t, x, 1, id, more(id%4))
		subscribe(t, x, 3, id, more(id%4))
		subscribe(t, x, 2, id, equal(id))
	}
	x.Drain()
	publish(t, x, 2, sized(7))
	waits(t, x, [3]int{0, 1, 1})
	x.Drain()
	publish(t, x, 3, sized(8))
	waits(t, x, [3]int{1, 0, 1})
	x.Drain()
	hears(t, x, 1, 7, 8)
	hears(t, x, 2, 8)
	hears(t, x, 3, 7)
}

// TestPublishNotToItself: whoever publishes does not hear it, here or back over a link; others with the same filter do.
func TestPublishNotToItself(t *testing.T) {
	x := made(t, 3, row(3))
	for c := range 6 {
		attach(t, x, c/2, c)
		subscribe(t, x, c, 1, anySize())
		subscribe(t, x, c, 2, equal(c))
	}
	x.Drain()
	for c := range 6 {
		publish(t, x, c, sized(c))
		x.Drain()
		for other := range 6 {
			if other == c {
				hears(t, x, other)
			} else {
				hears(t, x, other, c)
			}
		}
	}
}

// TestPublishTwice: what is published twice comes twice.
func TestPublishTwice(t *testing.T) {
	x := made(t, 2, row(2))
	attach(t, x, 0, 1)
	attach(t, x, 1, 2, 3)
	subscribe(t, x, 1, 1, anySize())
	subscribe(t, x, 3, 1, anySize())
	x.Drain()
	publish(t, x, 2, sized(1))
	publish(t, x, 2, sized(1))
	waits(t, x, [3]int{1, 0, 2})
	x.Drain()
	hears(t, x, 1, 1, 1)
	hears(t, x, 3, 1, 1)
}

// TestPublishAlongARow: the document's example, and on the way back.
func TestPublishAlongARow(t *testing.T) {
	x := made(t, 3, row(3))
	attach(t, x, 0, 10)
	attach(t, x, 2, 20)
	subscribe(t, x, 20, 1, more(3))
	subscribe(t, x, 20, 2, more(5))
	unsubscribe(t, x, 20, 1)
	x.Drain()
	publish(t, x, 10, sized(9))
	waits(t, x, [3]int{0, 1, 1})
	hears(t, x, 20)
	isErr(t, "P9: Step of an event", x.Step(0, 1), api.OK)
	waits(t, x, [3]int{1, 2, 1})
	hears(t, x, 20)
	isErr(t, "P9: Step of an event", x.Step(1, 2), api.OK)
	waits(t, x)
	hears(t, x, 20, 9)
	hears(t, x, 10)
	// Nobody wants these two: they don't leave the broker.
	publish(t, x, 10, sized(5))
	publish(t, x, 20, sized(9))
	waits(t, x)
	hears(t, x, 20)
}

// TestPublishInTheMiddle: to both sides, or to the one that asks for it.
func TestPublishInTheMiddle(t *testing.T) {
	x := made(t, 5, row(5))
	attach(t, x, 0, 0)
	attach(t, x, 2, 1, 2)
	attach(t, x, 4, 4)
	subscribe(t, x, 0, 1, more(3))
	subscribe(t, x, 4, 1, moreEq(6))
	x.Drain()
	publish(t, x, 2, sized(9))
	waits(t, x, [3]int{2, 1, 1}, [3]int{2, 3, 1})
	publish(t, x, 2, sized(4))
	waits(t, x, [3]int{2, 1, 2}, [3]int{2, 3, 1})
	publish(t, x, 2, sized(3))
	waits(t, x, [3]int{2, 1, 2}, [3]int{2, 3, 1})
	if n := x.Drain(); n != 4+2 {
		t.Errorf("P9: Drain of events: %d", n)
	}
	hears(t, x, 0, 9, 4)
	hears(t, x, 4, 9)
	hears(t, x, 1)
	hears(t, x, 2)
	// From one end to the other: the middle has clients, but none that asks.
	publish(t, x, 0, sized(7))
	if n := x.Drain(); n != 4 {
		t.Errorf("P9: Drain of an event along the row: %d", n)
	}
	hears(t, x, 4, 7)
	hears(t, x, 1)
}

// TestPublishInAStar: from an arm to those other arms that ask for it, and from the middle.
func TestPublishInAStar(t *testing.T) {
	x := made(t, 6, star(6, 3))
	for b := range 6 {
		attach(t, x, b, b)
		if b != 3 {
			subscribe(t, x, b, 1, more(b))
		}
	}
	x.Drain()
	publish(t, x, 2, sized(5))
	waits(t, x, [3]int{2, 3, 1})
	x.Step(2, 3)
	waits(t, x, [3]int{3, 0, 1}, [3]int{3, 1, 1}, [3]int{3, 4, 1})
	x.Drain()
	publish(t, x, 3, sized(2))
	waits(t, x, [3]int{3, 0, 1}, [3]int{3, 1, 1})
	x.Drain()
	// The only one that asks for this stands where it comes from.
	publish(t, x, 0, sized(1))
	waits(t, x)
	for b, wanted := range [][]int{{5, 2}, {5, 2}, nil, nil, {5}, nil} {
		hears(t, x, b, wanted...)
	}
}

// TestPublishInBoth: a row with stars about it; which links the event takes is written out.
func TestPublishInBoth(t *testing.T) {
	x := made(t, 8, both())
	for b := range 8 {
		attach(t, x, b, b, 10+b)
	}
	for _, c := range []int{4, 6, 16, 1, 11} {
		subscribe(t, x, c, 1, more(3))
	}
	subscribe(t, x, 3, 1, more(8))
	x.Drain()
	// From 5, over 2, to 4 and 6, and over 0 and 7 to 1.
	publish(t, x, 15, sized(5))
	for _, s := range []struct {
		step  [2]int
		waits [][3]int
	}{
		{[2]int{5, 2}, [][3]int{{2, 0, 1}, {2, 4, 1}, {2, 6, 1}}},
		{[2]int{2, 6}, [][3]int{{2, 0, 1}, {2, 4, 1}}},
		{[2]int{2, 0}, [][3]int{{0, 7, 1}, {2, 4, 1}}},
		{[2]int{0, 7}, [][3]int{{2, 4, 1}, {7, 1, 1}}},
		{[2]int{7, 1}, [][3]int{{2, 4, 1}}},
		{[2]int{2, 4}, nil},
	} {
		isErr(t, "P9: Step of an event", x.Step(s.step[0], s.step[1]), api.OK)
		waits(t, x, s.waits...)
	}
	heardBy(t, x, 5, 4, 6, 16, 1, 11)
	// From one that asks for it, at the other end.
	publish(t, x, 1, sized(4))
	if n := x.Drain(); n != 5 {
		t.Errorf("P9: Drain of an event: %d", n)
	}
	heardBy(t, x, 4, 4, 6, 16, 11)
}

// heardBy takes all inboxes of the clients 0 to 7 and 10 to 17.
func heardBy(t *testing.T, x *herald.Tree, n int, clients ...int) {
	t.Helper()
	for b := range 8 {
		for _, c := range []int{b, 10 + b} {
			if slices.Contains(clients, c) {
				hears(t, x, c, n)
			} else {
				hears(t, x, c)
			}
		}
	}
}

// TestEventsAndFiltersInOneQueue: they come in the order in which they were sent, over one link.
func TestEventsAndFiltersInOneQueue(t *testing.T) {
	x := made(t, 2, row(2))
	attach(t, x, 0, 1)
	attach(t, x, 1, 2)
	subscribe(t, x, 2, 1, anySize())
	x.Drain()
	subscribe(t, x, 1, 1, more(5))
	publish(t, x, 1, sized(1))
	publish(t, x, 1, sized(2))
	subscribe(t, x, 1, 2, more(3))
	publish(t, x, 1, sized(3))
	unsubscribe(t, x, 1, 2)
	publish(t, x, 1, sized(4))
	waits(t, x, [3]int{0, 1, 9})
	for i, s := range []struct {
		heard []int
		held  []api.Key
	}{
		{nil, []api.Key{key(1, 1)}},
		{[]int{1}, []api.Key{key(1, 1)}},
		{[]int{2}, []api.Key{key(1, 1)}},
		{nil, []api.Key{key(1, 1), key(1, 2)}},
		{nil, []api.Key{key(1, 2)}},
		{[]int{3}, []api.Key{key(1, 2)}},
		{nil, []api.Key{key(1, 1), key(1, 2)}},
		{nil, []api.Key{key(1, 1)}},
		{[]int{4}, []api.Key{key(1, 1)}},
	} {
		isErr(t, "P9: Step", x.Step(0, 1), api.OK)
		waits(t, x, [][3]int{{0, 1, 8 - i}}[:min(1, 8-i)]...)
		hears(t, x, 2, s.heard...)
		isHeld(t, x, 1, 0, s.held...)
	}
}

// TestEventMeetsFilters: where an event goes, what is held when it comes says.
func TestEventMeetsFilters(t *testing.T) {
	x := made(t, 3, row(3))
	attach(t, x, 0, 1)
	attach(t, x, 2, 2)
	subscribe(t, x, 2, 1, more(0))
	// Ahead of the filter: it stays.
	publish(t, x, 1, sized(1))
	waits(t, x, [3]int{2, 1, 1})
	x.Drain()
	hears(t, x, 2)
	// The filter is taken back at the client's broker, when the event is under way: it comes there, and no further.
	publish(t, x, 1, sized(2))
	x.Step(0, 1)
	unsubscribe(t, x, 2, 1)
	waits(t, x, [3]int{1, 2, 1}, [3]int{2, 1, 1})
	x.Step(1, 2)
	hears(t, x, 2)
	// The word that takes it back has not come to broker 0.
	publish(t, x, 1, sized(3))
	waits(t, x, [3]int{0, 1, 1}, [3]int{2, 1, 1})
	x.Step(2, 1)
	x.Step(0, 1)
	waits(t, x, [3]int{1, 0, 1})
	x.Drain()
	publish(t, x, 1, sized(4))
	waits(t, x)
	// The filter is there anew, with the event under way.
	subscribe(t, x, 2, 1, more(0))
	x.Drain()
	publish(t, x, 1, sized(5))
	x.Step(0, 1)
	unsubscribe(t, x, 2, 1)
	subscribe(t, x, 2, 7, equal(5))
	x.Step(1, 2)
	hears(t, x, 2, 5)
	// Another client there asks for it while it is under way.
	publish(t, x, 1, sized(5))
	attach(t, x, 2, 3)
	subscribe(t, x, 3, 1, more(4))
	x.Step(0, 1)
	x.Step(1, 2)
	hears(t, x, 3, 5)
	hears(t, x, 2, 5)
}

// TestHiddenFiltersHear: a filter that is hidden by another one hears what comes by it, and no more.
func TestHiddenFiltersHear(t *testing.T) {
	x := made(t, 3, row(3))
	attach(t, x, 0, 1)
	attach(t, x, 1, 2, 3)
	attach(t, x, 2, 4)
	subscribe(t, x, 3, 1, more(2))
	subscribe(t, x, 2, 1, more(4))
	subscribe(t, x, 4, 1, more(6))
	x.Drain()
	isHeld(t, x, 0, 1, key(3, 1))
	for _, n := range []int{2, 3, 5, 7} {
		publish(t, x, 1, sized(n))
		x.Drain()
	}
	hears(t, x, 3, 3, 5, 7)
	hears(t, x, 2, 5, 7)
	hears(t, x, 4, 7)
	unsubscribe(t, x, 3, 1)
	x.Drain()
	for _, n := range []int{4, 5, 7} {
		publish(t, x, 1, sized(n))
	}
	waits(t, x, [3]int{0, 1, 2})
	x.Drain()
	hears(t, x, 3)
	hears(t, x, 2, 5, 7)
	hears(t, x, 4, 7)
}

// TestPublishChangesNoFilters: what is held, and what is told, stays.
func TestPublishChangesNoFilters(t *testing.T) {
	x := made(t, 4, star(4, 0))
	for b := range 4 {
		attach(t, x, b, b)
		subscribe(t, x, b, b, more(b))
	}
	x.Drain()
	was := lookAt(x)
	for b := range 4 {
		publish(t, x, b, sized(7))
		x.Drain()
	}
	if is := lookAt(x); !reflect.DeepEqual(was, is) {
		t.Errorf("P8: events have changed what is held: %v, was %v", is, was)
	}
}
