package herald_test

import (
	"reflect"
	"testing"

	"herald/api"
)

func TestInboxOfNone(t *testing.T) {
	x := made(t, 2, row(2))
	for range 2 {
		for _, c := range append(oddNumbers(), 0, 1, 3) {
			if l, lost, k := x.Inbox(c); l != nil || lost != 0 || k != api.ErrNone {
				t.Errorf("P10: Inbox(%d): %v, %d, %d", c, l, lost, k)
			}
		}
		x.Attach(2, 0)
	}
}

// TestInboxEmpty: of a client without filters, of one with filters, and of one that has taken all.
func TestInboxEmpty(t *testing.T) {
	x := made(t, 1, nil)
	attach(t, x, 0, 1, 2)
	hears(t, x, 1)
	hears(t, x, 1)
	subscribe(t, x, 1, 1, anySize())
	hears(t, x, 1)
	publish(t, x, 2, sized(1))
	hears(t, x, 1, 1)
	hears(t, x, 1)
	hears(t, x, 1)
	publish(t, x, 2, sized(2))
	publish(t, x, 2, sized(3))
	hears(t, x, 1, 2, 3)
	hears(t, x, 1)
}

// upTo: the numbers of a range.
func upTo(from, to int) []int {
	var l []int
	for n := from; n < to; n++ {
		l = append(l, n)
	}
	return l
}

// TestInboxRoom: as many as it has room for, one more, many more, here and over a link; and again, since it is empty then.
func TestInboxRoom(t *testing.T) {
	for _, publisher := range []int{2, 3} {
		x := made(t, 2, row(2))
		attach(t, x, 0, 1, 2)
		attach(t, x, 1, 3)
		subscribe(t, x, 1, 1, anySize())
		x.Drain()
		first := 0
		for _, n := range []int{1, maxInbox - 1, maxInbox, maxInbox + 1, maxInbox + 2, 0, maxInbox, 100, 1000, 1, 2 * maxInbox, 0} {
			for i := range n {
				publish(t, x, publisher, sized(first+i))
			}
			x.Drain()
			hearsAndLoses(t, x, 1, max(0, n-maxInbox), upTo(first, first+min(n, maxInbox))...)
			hears(t, x, 1)
			first += n
		}
	}
}

// TestInboxLosesWhatItAskedFor: what doesn't match, or is one's own, is not counted, and others don't lose it.
func TestInboxLosesWhatItAskedFor(t *testing.T) {
	x := made(t, 1, nil)
	attach(t, x, 0, 1, 2, 3)
	subscribe(t, x, 1, 1, more(5))
	subscribe(t, x, 1, 2, more(6))
	subscribe(t, x, 2, 1, equal(0))
	subscribe(t, x, 2, 2, equal(39))
	for n := range 40 {
		publish(t, x, 3, sized(n))
		publish(t, x, 1, sized(n+100))
	}
	hearsAndLoses(t, x, 1, 40-6-maxInbox, upTo(6, 6+maxInbox)...)
	hears(t, x, 2, 0, 39)
	hears(t, x, 3)
}

// TestInboxOfEach: taking one leaves the others, and what they have lost.
func TestInboxOfEach(t *testing.T) {
	x := made(t, 1, nil)
	attach(t, x, 0, 1, 2, 3, 4)
	for c := 1; c < 4; c++ {
		subscribe(t, x, c, 1, anySize())
	}
	for n := range 10 {
		publish(t, x, 4, sized(n))
	}
	hears(t, x, 2, upTo(0, 10)...)
	for n := 10; n < 20; n++ {
		publish(t, x, 4, sized(n))
	}
	hearsAndLoses(t, x, 1, 4, upTo(0, 16)...)
	for n := 20; n < 30; n++ {
		publish(t, x, 4, sized(n))
	}
	hearsAndLoses(t, x, 2, 4, upTo(10, 26)...)
	hearsAndLoses(t, x, 3, 14, upTo(0, 16)...)
	hears(t, x, 1, upTo(20, 30)...)
	hears(t, x, 4)
}

// TestInboxStays: what has come is there also when the filter is taken back, and another one put in its place.
func TestInboxStays(t *testing.T) {
	x := made(t, 1, nil)
	attach(t, x, 0, 1, 2)
	subscribe(t, x, 1, 1, more(0))
	for n := range 19 {
		publish(t, x, 2, sized(n))
	}
	unsubscribe(t, x, 1, 1)
	publish(t, x, 2, sized(50))
	subscribe(t, x, 1, 1, equal(51))
	publish(t, x, 2, sized(51))
	publish(t, x, 2, sized(52))
	isErr(t, "P5: Attach of a client that is there", x.Attach(1, 0), api.ErrTwice)
	hearsAndLoses(t, x, 1, 2+1, upTo(1, 17)...)
}

// TestInboxOrder: as events came to the client's broker, not as they were published.
func TestInboxOrder(t *testing.T) {
	for _, order := range [][]int{{0, 1, 3}, {0, 3, 1}, {1, 0, 3}, {1, 3, 0}, {3, 0, 1}, {3, 1, 0}} {
		x := made(t, 4, star(4, 2))
		for b := range 4 {
			attach(t, x, b, b)
		}
		subscribe(t, x, 2, 1, anySize())
		x.Drain()
		for b := range 4 {
			publish(t, x, b, sized(b))
		}
		for _, b := range order {
			isErr(t, "P9: Step of an event", x.Step(b, 2), api.OK)
		}
		hears(t, x, 2, order...)
	}
}

// TestDrainOfEvents: the turns that Drain gives are seen in the inbox.
func TestDrainOfEvents(t *testing.T) {
	x := made(t, 4, [][2]int{{3, 0}, {0, 1}, {1, 2}})
	for b := range 4 {
		attach(t, x, b, b, 10+b)
		subscribe(t, x, b, 1, anySize())
	}
	x.Drain()
	for _, b := range []int{3, 2, 1, 0} {
		publish(t, x, 10+b, sized(b))
	}
	waits(t, x, [3]int{0, 1, 1}, [3]int{0, 3, 1}, [3]int{1, 0, 1}, [3]int{1, 2, 1}, [3]int{2, 1, 1}, [3]int{3, 0, 1})
	if n := x.Drain(); n != 4*3 {
		t.Errorf("P9: Drain of four events over three links: %d", n)
	}
	hears(t, x, 0, 0, 1, 2, 3)
	hears(t, x, 1, 1, 0, 2, 3)
	hears(t, x, 2, 2, 1, 0, 3)
	hears(t, x, 3, 3, 0, 1, 2)
}

// TestInboxOfAll: as many clients as there may be, each at its limit.
func TestInboxOfAll(t *testing.T) {
	x := made(t, maxBrokers, both())
	for c := range maxClients {
		attach(t, x, c%maxBrokers, c)
		for id := range maxFilters / maxClients {
			subscribe(t, x, c, id, more(id))
		}
	}
	x.Drain()
	for n := range 30 {
		publish(t, x, 5, sized(n))
		x.Drain()
	}
	for c := range maxClients {
		if c == 5 {
			hears(t, x, c)
			continue
		}
		hearsAndLoses(t, x, c, 30-1-maxInbox, upTo(1, 1+maxInbox)...)
	}
}

// TestInboxWithLinks: taking an inbox leaves what waits, and what is held.
func TestInboxWithLinks(t *testing.T) {
	x := made(t, 2, row(2))
	attach(t, x, 0, 1)
	attach(t, x, 1, 2)
	subscribe(t, x, 1, 1, anySize())
	x.Drain()
	for n := range 3 {
		publish(t, x, 2, sized(n))
	}
	x.Step(1, 0)
	was := lookAt(x)
	hears(t, x, 1, 0)
	if is := lookAt(x); !reflect.DeepEqual(was, is) {
		t.Errorf("P10: Inbox has changed something: %v, was %v", is, was)
	}
	waits(t, x, [3]int{1, 0, 2})
	x.Drain()
	hears(t, x, 1, 1, 2)
}
