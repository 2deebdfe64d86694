package herald_test

import (
	"fmt"
	"reflect"
	"slices"
	"testing"

	"herald/api"
)

func TestStepOfNoLink(t *testing.T) {
	x := made(t, 8, both())
	attach(t, x, 2, 1)
	subscribe(t, x, 1, 1, more(1))
	was := lookAt(x)
	numbers := append(oddNumbers(), 0, 1, 2, 3, 4, 5, 6, 7, 8)
	for _, from := range numbers {
		for _, to := range numbers {
			// Out of broker 2 something waits wherever there is a link.
			if from == 2 && slices.Contains([]int{0, 4, 5, 6}, to) {
				continue
			}
			isErr(t, fmt.Sprintf("P9: Step(%d, %d)", from, to), x.Step(from, to), api.ErrNone)
		}
	}
	if is := lookAt(x); !reflect.DeepEqual(was, is) {
		t.Errorf("P1: Step with an error has changed something: %v, was %v", is, was)
	}
	for _, to := range []int{0, 4, 5, 6} {
		isErr(t, "P9: Step", x.Step(2, to), api.OK)
		isErr(t, "P9: Step of an empty link", x.Step(2, to), api.ErrNone)
		isErr(t, "P9: Step the other way", x.Step(to, 2), api.ErrNone)
	}
}

func TestStepOfOneBroker(t *testing.T) {
	x := made(t, 1, nil)
	attach(t, x, 0, 1)
	subscribe(t, x, 1, 1, more(1))
	isErr(t, "P9: Step of one broker", x.Step(0, 0), api.ErrNone)
	isErr(t, "P9: Step of one broker", x.Step(-1, 0), api.ErrNone)
	if n := x.Drain(); n != 0 {
		t.Errorf("P9: Drain of one broker: %d", n)
	}
	if l := x.Links(); len(l) != 0 {
		t.Errorf("P10: Links of one broker: %v", l)
	}
	isHeld(t, x, 0, -1, key(1, 1))
}

// TestStepIsAQueue: what is sent last comes last, and a step takes one message of one link.
func TestStepIsAQueue(t *testing.T) {
	x := made(t, 3, row(3))
	attach(t, x, 1, 1)
	for i := range 40 {
		subscribe(t, x, 1, 40-i, equal(i))
	}
	var came []api.Key
	for i := range 40 {
		waits(t, x, [3]int{1, 0, 40 - i}, [3]int{1, 2, 40})
		isErr(t, "P9: Step", x.Step(1, 0), api.OK)
		came = slices.Insert(came, 0, key(1, 40-i))
		isHeld(t, x, 0, 1, came...)
	}
	isErr(t, "P9: Step of an empty link", x.Step(1, 0), api.ErrNone)
	waits(t, x, [3]int{1, 2, 40})
	// A queue that was emptied, and one that was not, take more.
	unsubscribe(t, x, 1, 40)
	waits(t, x, [3]int{1, 0, 1}, [3]int{1, 2, 41})
	outIs(t, x, 1, 0, "-1.40")
	l := goesOut(t, x, 1, 2)
	if len(l) != 41 || l[0] != "+1.40" || l[39] != "+1.1" || l[40] != "-1.40" {
		t.Errorf("P9: what came over 1 to 2: %q", l)
	}
}

// start: messages wait in several links, and more will follow: brokers 0 - 1 - 2, filters from both ends. It starts a tree and a
// model alike.
func start(x interface {
	Attach(int, int) api.Errno
	Subscribe(int, int, api.Filter) api.Errno
}) {
	x.Attach(10, 0)
	x.Attach(20, 2)
	x.Subscribe(10, 1, more(5))
	x.Subscribe(20, 1, moreEq(6))
	x.Subscribe(10, 2, anySize())
	x.Subscribe(20, 2, one("name", api.Any, api.Value{}))
}

// TestEveryOrderOfTurns: each message of start comes in each order that the links allow; after each step the tree shows what the
// model does, and when nothing waits, all orders have led to the same.
func TestEveryOrderOfTurns(t *testing.T) {
	orders, held := 0, look{}
	var goOn func(turns []api.Link)
	goOn = func(turns []api.Link) {
		x, m := made(t, 3, row(3)), newModel(3, row(3))
		start(x)
		start(m)
		for _, l := range turns {
			isErr(t, "P9: Step", x.Step(l.From, l.To), m.Step(l.From, l.To))
		}
		is := lookAt(x)
		if wanted := lookAt(m); !reflect.DeepEqual(is, wanted) {
			t.Fatalf("P9: after the turns %v: %v, want %v", turns, is, wanted)
		}
		open := slices.DeleteFunc(x.Links(), func(l api.Link) bool { return l.Waiting == 0 })
		for _, l := range open {
			goOn(append(slices.Clone(turns), l))
		}
		if len(open) > 0 {
			return
		}
		orders++
		if orders > 1 && !reflect.DeepEqual(is, held) {
			t.Fatalf("P9: the turns %v led to %v, others to %v", turns, is, held)
		}
		held = is
	}
	goOn(nil)
	if orders < 100 {
		t.Errorf("the test has only %d orders", orders)
	}
}

func TestDrain(t *testing.T) {
	x := made(t, 4, row(4))
	attach(t, x, 0, 1)
	attach(t, x, 3, 4)
	subscribe(t, x, 1, 1, more(1))
	if n := x.Drain(); n != 3 {
		t.Errorf("P9: Drain of one filter along a row: %d", n)
	}
	if n := x.Drain(); n != 0 {
		t.Errorf("P9: Drain of nothing: %d", n)
	}
	subscribe(t, x, 1, 2, more(2))
	subscribe(t, x, 4, 1, more(2))
	unsubscribe(t, x, 1, 1)
	if n := x.Drain(); n != 3+2*3 {
		t.Errorf("P9: Drain of one filter, and of one with a word that takes back: %d", n)
	}
	isHeld(t, x, 3, 2, key(1, 2))
	isHeld(t, x, 0, 1, key(4, 1))
}

// TestDrainOrder: the turns that Drain gives change how many messages there are, so that they can be seen.
func TestDrainOrder(t *testing.T) {
	seen := map[int]int{}
	for _, edges := range [][][2]int{{{0, 1}, {1, 2}, {2, 3}}, {{3, 1}, {1, 0}, {0, 2}}, {{0, 3}, {3, 2}, {3, 1}}, {{2, 0}, {2, 1}, {2, 3}}} {
		for n := range 1 << 6 {
			x, m := made(t, 4, edges), newModel(4, edges)
			for c := range 4 {
				x.Attach(c, c)
				m.Attach(c, c)
			}
			for c := range 3 {
				f := []api.Filter{more(1), more(2), equal(3), anySize()}[n>>(2*c)&3]
				isErr(t, "P6: Subscribe", x.Subscribe(c+1, 1, f), m.Subscribe(c+1, 1, f))
			}
			got, wanted := x.Drain(), m.Drain()
			if got != wanted {
				t.Fatalf("P9: Drain: %d, want %d", got, wanted)
			}
			seen[got]++
			if a, b := lookAt(x), lookAt(m); !reflect.DeepEqual(a, b) {
				t.Fatalf("P9: after Drain: %v, want %v", a, b)
			}
		}
	}
	if len(seen) < 5 {
		t.Errorf("the test has too few numbers of messages: %v", seen)
	}
}

// TestDrainIsSteps: by hand, the least from and then the least to.
func TestDrainIsSteps(t *testing.T) {
	x, y := made(t, 3, row(3)), made(t, 3, row(3))
	start(x)
	start(y)
	steps := 0
	for done := false; !done; {
		done = true
		for from := 0; from < 3 && done; from++ {
			for to := 0; to < 3 && done; to++ {
				if y.Step(from, to) == api.OK {
					done = false
					steps++
				}
			}
		}
	}
	if n := x.Drain(); n != steps {
		t.Errorf("P9: Drain: %d, by hand %d", n, steps)
	}
	if a, b := lookAt(x), lookAt(y); !reflect.DeepEqual(a, b) {
		t.Errorf("P9: after Drain: %v, by hand %v", a, b)
	}
}

func TestLinks(t *testing.T) {
	x := made(t, 8, both())
	wanted := []api.Link{
		{From: 0, To: 2}, {From: 0, To: 7}, {From: 1, To: 7},
		{From: 2, To: 0}, {From: 2, To: 4}, {From: 2, To: 5}, {From: 2, To: 6},
		{From: 3, To: 7}, {From: 4, To: 2}, {From: 5, To: 2}, {From: 6, To: 2},
		{From: 7, To: 0}, {From: 7, To: 1}, {From: 7, To: 3},
	}
	if l := x.Links(); !slices.Equal(l, wanted) {
		t.Fatalf("P10: Links: %v, want %v", l, wanted)
	}
	attach(t, x, 7, 1)
	subscribe(t, x, 1, 1, equal(1))
	subscribe(t, x, 1, 2, equal(2))
	x.Step(7, 0)
	wanted[1].Waiting, wanted[0].Waiting = 0, 1
	wanted[11].Waiting, wanted[12].Waiting, wanted[13].Waiting = 1, 2, 2
	for range 2 {
		if l := x.Links(); !slices.Equal(l, wanted) {
			t.Fatalf("P10: Links: %v, want %v", l, wanted)
		}
	}
}

func TestHeldOfNone(t *testing.T) {
	x := made(t, 4, [][2]int{{0, 1}, {1, 2}, {1, 3}})
	attach(t, x, 1, 1)
	subscribe(t, x, 1, 1, more(1))
	x.Drain()
	sides := [][]int{{-1, 1}, {-1, 0, 2, 3}, {-1, 1}, {-1, 1}}
	numbers := append(oddNumbers(), 0, 1, 2, 3, 4, 5)
	for _, b := range numbers {
		for _, from := range numbers {
			wanted := api.ErrNone
			if b >= 0 && b < 4 && slices.Contains(sides[b], from) {
				wanted = api.OK
			}
			l, k := x.Held(b, from)
			if k != wanted || k != api.OK && l != nil {
				t.Errorf("P10: Held(%d, %d): %v, %d, want %d", b, from, l, k, wanted)
			}
		}
	}
	for _, b := range []int{-1, 1, 1 << 62} {
		if l, k := made(t, 1, nil).Held(b, -1); l != nil || k != api.ErrNone {
			t.Errorf("P10: Held(%d, -1) of one broker: %v, %d", b, l, k)
		}
	}
	isHeld(t, made(t, 1, nil), 0, -1)
}

// TestHeldFromEverySide: a broker in the middle with keys from its clients and from each neighbour.
func TestHeldFromEverySide(t *testing.T) {
	x := made(t, 4, star(4, 1))
	for b := range 4 {
		attach(t, x, b, 10-b, -b-1)
	}
	for b := range 4 {
		for i, id := range []int{2, -2, 1 << 40, 0} {
			subscribe(t, x, 10-b, id, equal(10*b+i))
			subscribe(t, x, -b-1, id, equal(10*b+i+5))
		}
	}
	x.Drain()
	for b, from := range []int{0, -1, 2, 3} {
		c, d := -b-1, 10-b
		isHeld(t, x, 1, from, key(c, -2), key(c, 0), key(c, 2), key(c, 1<<40), key(d, -2), key(d, 0), key(d, 2), key(d, 1<<40))
	}
	for _, b := range []int{0, 2, 3} {
		l, k := x.Held(b, 1)
		if len(l) != 3*8 || k != api.OK || !slices.IsSortedFunc(l, compare) {
			t.Errorf("P10: Held(%d, 1): %v, %d", b, l, k)
		}
	}
}

func compare(a, b api.Key) int {
	if a.Client < b.Client || a.Client == b.Client && a.Id < b.Id {
		return -1
	}
	return 1
}
