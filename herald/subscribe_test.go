package herald_test

import (
	"math"
	"reflect"
	"strings"
	"testing"

	"herald/api"
	"herald/herald"
)

func badFilters() []api.Filter {
	return []api.Filter{
		nil, {}, {{}},
		one("", api.Any, api.Value{}), one("Size", api.Any, api.Value{}), one(strings.Repeat("x", 17), api.Any, api.Value{}),
		one("size", 0, num(1)), one("size", 11, num(1)), one("size", api.Any, num(1)), one("size", api.Less, text("")),
		one("size", api.Part, num(1)), one("size", api.Equal, text(strings.Repeat("x", 33))), one("up", api.Equal, api.Value{Kind: api.Flag, N: 2}),
		{want("size", api.More, num(1)), want("size", api.More, text("x"))},
		make(api.Filter, 7), make(api.Filter, 100000),
		{want("a", api.More, num(1)), want("a", api.More, num(1)), want("a", api.More, num(1)), want("a", api.More, num(1)), want("a", api.More, num(1)), want("a", api.More, num(1)), want("a", api.More, num(1))},
	}
}

func TestSubscribe(t *testing.T) {
	x := made(t, 3, row(3))
	attach(t, x, 1, 5, -5)
	for _, id := range []int{3, math.MinInt, -1, 0, math.MaxInt} {
		subscribe(t, x, 5, id, more(id))
	}
	subscribe(t, x, -5, 3, more(3))
	isHeld(t, x, 1, -1, key(-5, 3), key(5, math.MinInt), key(5, -1), key(5, 0), key(5, 3), key(5, math.MaxInt))
	isHeld(t, x, 0, -1)
	isHeld(t, x, 2, -1)
	six := api.Filter{want("a", api.More, num(1)), want("b", api.Less, num(1)), want("c", api.Any, api.Value{}), want("a", api.Part, text(strings.Repeat("x", 32))), want("abcdefghijklmnop", api.Equal, api.Value{Kind: api.Flag, N: 1}), want("z", api.Other, text(""))}
	subscribe(t, x, -5, 4, six)
}

func TestSubscribeOfNobody(t *testing.T) {
	x := made(t, 2, row(2))
	attach(t, x, 0, 5)
	subscribe(t, x, 5, 1, more(1))
	for _, c := range append(oddNumbers(), 0, 1, 4, 6) {
		for _, f := range []api.Filter{nil, more(1), more(0)} {
			isErr(t, "P6: Subscribe of nobody", x.Subscribe(c, 1, f), api.ErrNone)
		}
		isErr(t, "P6: Unsubscribe of nobody", x.Unsubscribe(c, 1), api.ErrNone)
	}
	isHeld(t, x, 0, -1, key(5, 1))
	waits(t, x, [3]int{0, 1, 1})
}

func TestSubscribeNoFilter(t *testing.T) {
	x := made(t, 2, row(2))
	attach(t, x, 0, 5)
	for _, f := range badFilters() {
		isErr(t, "P6: Subscribe with no filter", x.Subscribe(5, 1, f), api.ErrFilter)
	}
	isHeld(t, x, 0, -1)
	waits(t, x)
	isErr(t, "P6: Unsubscribe of what was no filter", x.Unsubscribe(5, 1), api.ErrNone)
	subscribe(t, x, 5, 1, more(1))
}

func TestSubscribeTwice(t *testing.T) {
	x := made(t, 2, row(2))
	attach(t, x, 0, 5, 6)
	subscribe(t, x, 5, 1, more(5))
	for _, f := range []api.Filter{more(5), more(4), more(6), anySize(), one("name", api.Any, api.Value{})} {
		isErr(t, "P6: Subscribe twice", x.Subscribe(5, 1, f), api.ErrTwice)
	}
	waits(t, x, [3]int{0, 1, 1})
	// The first filter is still the one: a narrower one is hidden by it, a wider one is not.
	subscribe(t, x, 5, 2, more(6))
	waits(t, x, [3]int{0, 1, 1})
	subscribe(t, x, 6, 1, more(4))
	waits(t, x, [3]int{0, 1, 3})
	unsubscribe(t, x, 5, 1)
	isErr(t, "P6: Unsubscribe again", x.Unsubscribe(5, 1), api.ErrNone)
	isHeld(t, x, 0, -1, key(5, 2), key(6, 1))
	subscribe(t, x, 5, 1, anySize())
	isErr(t, "P6: Subscribe twice, the second time", x.Subscribe(5, 1, more(5)), api.ErrTwice)
	isHeld(t, x, 0, -1, key(5, 1), key(5, 2), key(6, 1))
}

// TestUnsubscribeOfAnother: a client takes back its own filters alone, and an id is its client's own.
func TestUnsubscribeOfAnother(t *testing.T) {
	x := made(t, 2, row(2))
	attach(t, x, 0, 5, 6)
	attach(t, x, 1, 7)
	subscribe(t, x, 5, 1, more(5))
	x.Drain()
	isErr(t, "P6: Unsubscribe of another's", x.Unsubscribe(6, 1), api.ErrNone)
	isErr(t, "P6: Unsubscribe of another's at another broker", x.Unsubscribe(7, 1), api.ErrNone)
	for _, id := range append(oddNumbers(), 0, 2, 5) {
		isErr(t, "P6: Unsubscribe of none", x.Unsubscribe(5, id), api.ErrNone)
	}
	subscribe(t, x, 6, 1, more(5))
	subscribe(t, x, 7, 1, more(5))
	unsubscribe(t, x, 6, 1)
	isHeld(t, x, 0, -1, key(5, 1))
	isHeld(t, x, 1, -1, key(7, 1))
	isHeld(t, x, 1, 0, key(5, 1))
}

// full makes a tree with as many filters as there may be, at three brokers, by clients 0 to 3 (client 3 has none).
func full(t *testing.T) *herald.Tree {
	x := made(t, 3, row(3))
	for c := range 4 {
		attach(t, x, c%3, c)
	}
	for i := range maxFilters {
		subscribe(t, x, i%3, i, equal(i))
	}
	return x
}

func TestSubscribeUpToTheLimit(t *testing.T) {
	x := full(t)
	was := lookAt(x)
	for c := range 4 {
		isErr(t, "P6: Subscribe, one more", x.Subscribe(c, -1, more(1)), api.ErrFull)
		isErr(t, "P6: Subscribe, one more", x.Subscribe(c, maxFilters, equal(0)), api.ErrFull)
	}
	if is := lookAt(x); !reflect.DeepEqual(was, is) {
		t.Errorf("P1: Subscribe with an error has changed something: %v, was %v", is, was)
	}
	// What is held from neighbours does not count, nor what waits.
	x.Drain()
	isErr(t, "P6: Subscribe, one more", x.Subscribe(0, -1, more(1)), api.ErrFull)
	unsubscribe(t, x, 2, 5)
	subscribe(t, x, 3, 5, more(1))
	isErr(t, "P6: Subscribe, one more", x.Subscribe(2, 5, equal(5)), api.ErrFull)
	x.Drain()
	isErr(t, "P6: Subscribe, one more", x.Subscribe(2, 5, equal(5)), api.ErrFull)
	for i := range maxFilters {
		if i != 5 {
			unsubscribe(t, x, i%3, i)
		}
	}
	for i := range maxFilters - 1 {
		subscribe(t, x, 3, -i, equal(i))
	}
	isErr(t, "P6: Subscribe, one more", x.Subscribe(2, 5, equal(5)), api.ErrFull)
}

// TestSubscribeFirstError: of several errors the one that P6 names first.
func TestSubscribeFirstError(t *testing.T) {
	x := full(t)
	isErr(t, "P6: nobody, no filter, no room", x.Subscribe(4, 0, nil), api.ErrNone)
	isErr(t, "P6: nobody, no room", x.Subscribe(4, 0, more(1)), api.ErrNone)
	isErr(t, "P6: no filter, twice, no room", x.Subscribe(0, 0, nil), api.ErrFilter)
	isErr(t, "P6: no filter, no room", x.Subscribe(0, 1, nil), api.ErrFilter)
	isErr(t, "P6: twice, no room", x.Subscribe(0, 0, more(1)), api.ErrTwice)
	isErr(t, "P6: no room", x.Subscribe(0, 1, more(1)), api.ErrFull)
	unsubscribe(t, x, 0, 3)
	isErr(t, "P6: no filter, twice", x.Subscribe(0, 0, nil), api.ErrFilter)
	isErr(t, "P6: nobody, no filter", x.Subscribe(4, 0, nil), api.ErrNone)
	isErr(t, "P6: nobody, no such filter", x.Unsubscribe(4, 0), api.ErrNone)
}
