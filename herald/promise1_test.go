package herald_test

import (
	"math"
	"math/rand"
	"reflect"
	"slices"
	"testing"
	"unsafe"

	"herald/api"
	"herald/herald"
)

// wild gives numbers near all that is asked, and far off.
func wild(r *rand.Rand) int {
	if r.Intn(8) == 0 {
		l := append(oddNumbers(), int(r.Uint64()))
		return l[r.Intn(len(l))]
	}
	return r.Intn(maxBrokers)
}

// wildFilter gives a filter, or what is none, with spare room that is not empty.
func wildFilter(r *rand.Rand) api.Filter {
	l := make(api.Filter, r.Intn(4), 10)
	for i := range l[:cap(l)] {
		w := want("size", 1+r.Intn(7), num(r.Intn(3)))
		switch {
		case w.Way == api.Any:
			w.Value = api.Value{}
		case r.Intn(20) == 0:
			w = want("Size\xff", wild(r), api.Value{Kind: wild(r), N: wild(r), S: "x"})
		}
		l[:cap(l)][i] = w
	}
	return l
}

// wildEvent gives an event, or what is none, with spare room that is not empty.
func wildEvent(r *rand.Rand) api.Event {
	l := make(api.Event, r.Intn(4), 10)
	for i := range l[:cap(l)] {
		a := attr([]string{"size", "up", "v", "w"}[i%4], num(r.Intn(3)))
		if r.Intn(20) == 0 {
			a = attr("Size\xff", api.Value{Kind: wild(r), N: wild(r), S: "x"})
		}
		l[:cap(l)][i] = a
	}
	return l
}

func wildEdges(r *rand.Rand) [][2]int {
	l := make([][2]int, r.Intn(4), 10)
	for i := range l[:cap(l)] {
		l[:cap(l)][i] = [2]int{wild(r) % 5, wild(r) % 5}
	}
	return l
}

// wholeOf copies a list with its spare room.
func wholeOf[T any](l []T) []T { return slices.Clone(l[:cap(l)]) }

// wildTurn makes one call at random on each tree, with the same arguments, and gives the answers.
func wildTurn(t *testing.T, r *rand.Rand, trees ...*herald.Tree) []any {
	var answers []any
	a, b, f, e, which := wild(r), wild(r), wildFilter(r), wildEvent(r), r.Intn(16)
	was, eventWas := wholeOf(f), wholeOf(e)
	for _, x := range trees {
		switch which {
		case 0, 1:
			answers = append(answers, x.Attach(a, b))
		case 2, 3, 4:
			answers = append(answers, x.Subscribe(a, b, f))
		case 5:
			answers = append(answers, x.Unsubscribe(a, b))
		case 6, 7, 8:
			answers = append(answers, x.Step(a, b))
		case 9:
			answers = append(answers, x.Drain())
		case 10:
			answers = append(answers, x.Links())
		case 11:
			l, k := x.Held(a, b-1)
			if k != api.OK && l != nil {
				t.Fatalf("P1: Held with an error: %v, %d", l, k)
			}
			answers = append(answers, [2]any{l, k})
		case 12, 13, 14:
			answers = append(answers, x.Publish(a, e))
		case 15:
			l, lost, k := x.Inbox(a)
			if k != api.OK && (l != nil || lost != 0) {
				t.Fatalf("P1: Inbox with an error: %v, %d, %d", l, lost, k)
			}
			answers = append(answers, taken{l, lost, k})
		}
	}
	if !slices.Equal(was, wholeOf(f)) {
		t.Fatalf("P1: a filter that was handed in has changed: %v, was %v", wholeOf(f), was)
	}
	if !slices.Equal(eventWas, wholeOf(e)) {
		t.Fatalf("P1: an event that was handed in has changed: %v, was %v", wholeOf(e), eventWas)
	}
	return answers
}

// TestAnything: whatever is handed in, no call panics, two trees answer the same to the same, and what was handed in stays as it is.
func TestAnything(t *testing.T) {
	r := rand.New(rand.NewSource(2))
	tally := map[any]int{}
	for range 1500 {
		brokers, edges := wild(r)%6, wildEdges(r)
		if brokers > 0 && r.Intn(4) == 0 {
			edges = randomTree(r, brokers)
		}
		was := wholeOf(edges)
		x, k := herald.New(brokers, edges)
		y, l := herald.New(brokers, edges)
		if k != l || (x != nil) != (k == api.OK) || (y != nil) != (l == api.OK) {
			t.Fatalf("P1: New(%d, %v): %v, %d, then %v, %d", brokers, edges, x, k, y, l)
		}
		if !slices.Equal(was, wholeOf(edges)) {
			t.Fatalf("P1: edges that were handed in have changed: %v, were %v", wholeOf(edges), was)
		}
		for c := range r.Intn(8) {
			if k == api.OK {
				isErr(t, "P1: two trees, Attach", x.Attach(c, c%3), y.Attach(c, c%3))
			}
		}
		for range 200 {
			if k != api.OK {
				break
			}
			answers := wildTurn(t, r, x, y)
			if !reflect.DeepEqual(answers[0], answers[1]) {
				t.Fatalf("P1: two answers to the same: %v", answers)
			}
			switch a := answers[0].(type) {
			case api.Errno:
				tally[a]++
			case taken:
				tally["heard"] += len(a.events)
			}
		}
		tally["New"] += 1 - min(1, int(k))
	}
	for _, what := range []any{"New", "heard", api.OK, api.ErrEvent, api.ErrFilter, api.ErrNone, api.ErrTwice} {
		if tally[what] < 100 {
			t.Errorf("the test has too little of %v: %v", what, tally)
		}
	}
}

// wrongCalls makes calls that all have errors, on a tree of three brokers with the client 1 and its filter 1.
func wrongCalls(t *testing.T, x *herald.Tree) {
	t.Helper()
	isErr(t, "P5: Attach", x.Attach(1, 0), api.ErrTwice)
	isErr(t, "P5: Attach", x.Attach(9, 3), api.ErrNone)
	isErr(t, "P5: Attach", x.Attach(9, math.MinInt), api.ErrNone)
	isErr(t, "P6: Subscribe", x.Subscribe(9, 1, more(0)), api.ErrNone)
	isErr(t, "P6: Subscribe", x.Subscribe(1, 9, append(more(0), api.Want{})), api.ErrFilter)
	isErr(t, "P6: Subscribe", x.Subscribe(1, 1, anySize()), api.ErrTwice)
	isErr(t, "P6: Unsubscribe", x.Unsubscribe(9, 1), api.ErrNone)
	isErr(t, "P6: Unsubscribe", x.Unsubscribe(1, 9), api.ErrNone)
	isErr(t, "P8: Publish", x.Publish(9, sized(5)), api.ErrNone)
	isErr(t, "P8: Publish", x.Publish(9, nil), api.ErrNone)
	isErr(t, "P8: Publish", x.Publish(1, append(sized(5), api.Attr{})), api.ErrEvent)
	isErr(t, "P8: Publish", x.Publish(1, nil), api.ErrEvent)
	isErr(t, "P9: Step", x.Step(0, 2), api.ErrNone)
	isErr(t, "P9: Step", x.Step(-1, 3), api.ErrNone)
	for _, c := range []int{0, 9, math.MinInt} {
		if l, lost, k := x.Inbox(c); l != nil || lost != 0 || k != api.ErrNone {
			t.Fatalf("P10: Inbox(%d): %v, %d, %d", c, l, lost, k)
		}
	}
	for _, side := range [][2]int{{0, 2}, {3, -1}, {0, 0}, {1, -2}} {
		if l, k := x.Held(side[0], side[1]); l != nil || k != api.ErrNone {
			t.Fatalf("P10: Held(%v): %v, %d", side, l, k)
		}
	}
}

// TestErrorChangesNothing: with wrong calls between all others a tree goes the same way as without.
func TestErrorChangesNothing(t *testing.T) {
	x, y := made(t, 3, row(3)), made(t, 3, row(3))
	turns := []func(*herald.Tree) api.Errno{
		func(z *herald.Tree) api.Errno { return z.Attach(1, 0) },
		func(z *herald.Tree) api.Errno { return z.Subscribe(1, 1, more(3)) },
		func(z *herald.Tree) api.Errno { return z.Attach(2, 2) },
		func(z *herald.Tree) api.Errno { return z.Step(0, 1) },
		func(z *herald.Tree) api.Errno { return z.Subscribe(2, 1, more(2)) },
		func(z *herald.Tree) api.Errno { return z.Subscribe(1, 2, moreEq(4)) },
		func(z *herald.Tree) api.Errno { return z.Step(1, 2) },
		func(z *herald.Tree) api.Errno { return z.Step(2, 1) },
		func(z *herald.Tree) api.Errno { return z.Step(1, 0) },
		func(z *herald.Tree) api.Errno { return z.Publish(1, sized(3)) },
		func(z *herald.Tree) api.Errno { return z.Step(0, 1) },
		func(z *herald.Tree) api.Errno { return z.Publish(2, sized(4)) },
		func(z *herald.Tree) api.Errno { return z.Step(1, 2) },
		func(z *herald.Tree) api.Errno { return z.Unsubscribe(2, 1) },
		func(z *herald.Tree) api.Errno { return z.Step(2, 1) },
		func(z *herald.Tree) api.Errno { return z.Step(1, 0) },
	}
	for range maxInbox + 2 {
		turns = append(turns, func(z *herald.Tree) api.Errno { return z.Publish(2, sized(5)) })
	}
	for i, turn := range turns {
		if i > 1 {
			was := lookAt(x)
			wrongCalls(t, x)
			if is := lookAt(x); !reflect.DeepEqual(was, is) {
				t.Fatalf("P1: calls with errors have changed something ahead of turn %d: %v, was %v", i, is, was)
			}
		}
		isErr(t, "P1: a turn", turn(x), api.OK)
		isErr(t, "P1: a turn", turn(y), api.OK)
		if a, b := lookAt(x), lookAt(y); !reflect.DeepEqual(a, b) {
			t.Fatalf("P1: after turn %d: %v, without the calls with errors %v", i, a, b)
		}
	}
	for _, z := range []*herald.Tree{x, y} {
		z.Drain()
		if z == x {
			wrongCalls(t, x)
		}
		hearsAndLoses(t, z, 1, 3, append([]int{4}, slices.Repeat([]int{5}, maxInbox-1)...)...)
		hears(t, z, 2, 3)
	}
}

// TestFilterIsNotKept: its owner changes it, and the bytes of its strings, wherever it has come to; the tree goes on with what
// was handed in.
func TestFilterIsNotKept(t *testing.T) {
	for _, when := range []string{"at once", "on the way", "when it has come"} {
		x := made(t, 3, row(3))
		attach(t, x, 0, 1)
		attach(t, x, 1, 2)
		name, begin := []byte("name"), []byte("ab")
		f := one(unsafe.String(&name[0], len(name)), api.Prefix, text(unsafe.String(&begin[0], len(begin))))
		subscribe(t, x, 1, 1, f)
		switch when {
		case "on the way":
			x.Step(0, 1)
		case "when it has come":
			x.Drain()
		}
		name[0], begin[0] = 'z', 'z'
		f[0] = want("size", api.Any, api.Value{})
		x.Drain()
		// The filter that was handed in hides this one, at the client's broker, and at the next one.
		narrow := one("name", api.Prefix, text("abc"))
		subscribe(t, x, 1, 2, narrow)
		waits(t, x)
		subscribe(t, x, 2, 1, narrow)
		waits(t, x, [3]int{1, 0, 1})
		subscribe(t, x, 2, 2, one("size", api.Equal, num(1)))
		waits(t, x, [3]int{1, 0, 2}, [3]int{1, 2, 1})
	}
}

// TestEventIsNotKept: its owner changes it, its spare room, and the bytes of its strings, wherever it has come to; all hear what
// was handed in.
func TestEventIsNotKept(t *testing.T) {
	for _, when := range []string{"at once", "on the way", "when it has come"} {
		x := made(t, 3, row(3))
		for b := range 3 {
			attach(t, x, b, b, 10+b)
			subscribe(t, x, 10+b, 1, one("name", api.Prefix, text("ab")))
		}
		x.Drain()
		name, begin := []byte("name"), []byte("abc")
		e := append(make(api.Event, 0, 8), attr(unsafe.String(&name[0], len(name)), text(unsafe.String(&begin[0], len(begin)))))
		publish(t, x, 0, e)
		switch when {
		case "on the way":
			x.Step(0, 1)
		case "when it has come":
			x.Drain()
		}
		name[0], begin[0] = 'z', 'z'
		spoil(e, attr("size", num(1)))
		x.Drain()
		for b := range 3 {
			l, _, _ := x.Inbox(10 + b)
			if len(l) != 1 || !slices.Equal(l[0], api.Event{attr("name", text("abc"))}) {
				t.Errorf("P1: an event that was changed %s: Inbox(%d): %v", when, 10+b, l)
			}
		}
	}
}

func TestEdgesAreNotKept(t *testing.T) {
	edges := [][2]int{{0, 1}, {1, 2}}
	x := made(t, 3, edges)
	edges[0], edges[1] = [2]int{0, 2}, [2]int{7, 7}
	if l := x.Links(); !slices.Equal(l, []api.Link{{From: 0, To: 1}, {From: 1, To: 0}, {From: 1, To: 2}, {From: 2, To: 1}}) {
		t.Errorf("P1: Links: %v", l)
	}
	attach(t, x, 0, 1)
	subscribe(t, x, 1, 1, more(1))
	waits(t, x, [3]int{0, 1, 1})
}

// spoil overwrites a list and its spare room.
func spoil[T any](l []T, with T) {
	for i := range l[:cap(l)] {
		l[:cap(l)][i] = with
	}
}

func TestAnswersAreNewMemory(t *testing.T) {
	x := made(t, 3, row(3))
	attach(t, x, 1, 1)
	for id := range 5 {
		subscribe(t, x, 1, id, equal(id))
	}
	x.Step(1, 0)
	badLink, badKey := api.Link{From: 77, To: 77, Waiting: 77}, key(77, 77)
	links, again := x.Links(), x.Links()
	held, _ := x.Held(1, -1)
	heldAgain, _ := x.Held(1, -1)
	wanted, wantedHeld := slices.Clone(again), slices.Clone(heldAgain)
	was := lookAt(x)
	spoil(links, badLink)
	spoil(held, badKey)
	if !slices.Equal(again, wanted) || slices.Contains(again[:cap(again)], badLink) {
		t.Errorf("P1: two answers of Links share memory: %v", again[:cap(again)])
	}
	if !slices.Equal(heldAgain, wantedHeld) || slices.Contains(heldAgain[:cap(heldAgain)], badKey) {
		t.Errorf("P1: two answers of Held share memory: %v", heldAgain[:cap(heldAgain)])
	}
	if is := lookAt(x); !reflect.DeepEqual(was, is) {
		t.Errorf("P1: an answer that was changed changes the tree: %v, was %v", is, was)
	}
	if n := x.Drain(); n != 9 {
		t.Errorf("P9: Drain: %d", n)
	}
}

// TestEventsShareNothing: what two clients hear, or one of them twice, can be changed each by itself, spare room too; and the tree
// goes on with what was published.
func TestEventsShareNothing(t *testing.T) {
	x := made(t, 3, row(3))
	attach(t, x, 0, 1, 2, 3)
	attach(t, x, 1, 4)
	attach(t, x, 2, 5, 6)
	for c := 2; c <= 6; c++ {
		subscribe(t, x, c, 1, one("name", api.Any, api.Value{}))
	}
	x.Drain()
	e := api.Event{attr("name", text("abc")), attr("size", num(1))}
	publish(t, x, 1, e)
	publish(t, x, 1, e)
	var events []api.Event
	for c := 2; c <= 6; c++ {
		x.Drain()
		l, _, _ := x.Inbox(c)
		if len(l) != 2 {
			t.Fatalf("P8: Inbox(%d): %v", c, l)
		}
		events = append(events, l...)
		isFresh(t, l, e)
		for _, heard := range l {
			spoil(heard, attr("bad", num(77)))
		}
		spoil(l, nil)
	}
	for i := range events {
		for _, other := range events[i+1:] {
			if unsafe.SliceData(events[i]) == unsafe.SliceData(other) {
				t.Errorf("P1: two events share their memory")
			}
		}
	}
	publish(t, x, 1, e)
	x.Drain()
	for c := 2; c <= 6; c++ {
		if l, lost, k := x.Inbox(c); len(l) != 1 || !slices.Equal(l[0], e) || lost != 0 || k != api.OK {
			t.Errorf("P1: after events were changed: Inbox(%d): %v, %d, %d", c, l, lost, k)
		}
	}
}

// isFresh: each event is as it was published, none of its strings lies where another's does, and spare room is empty.
func isFresh(t *testing.T, l []api.Event, e api.Event) {
	t.Helper()
	strings := []string{e[0].Name, e[0].Value.S, e[1].Name}
	for _, heard := range l {
		if !slices.Equal(heard, e) {
			t.Fatalf("P8: heard: %v, published: %v", heard, e)
		}
		for _, s := range []string{heard[0].Name, heard[0].Value.S, heard[1].Name} {
			if slices.ContainsFunc(strings, func(z string) bool { return unsafe.StringData(z) == unsafe.StringData(s) }) {
				t.Errorf("P1: the string %q lies where another one does", s)
			}
			strings = append(strings, s)
		}
		for _, a := range heard[len(heard):cap(heard)] {
			if a != (api.Attr{}) {
				t.Errorf("P1: spare room of an event: %v", a)
			}
		}
	}
	for _, spare := range l[len(l):cap(l)] {
		if spare != nil {
			t.Errorf("P1: spare room of an inbox: %v", spare)
		}
	}
}

// TestInboxesShareNothing: a list that was handed out stays as it is when more comes, and is changed without harm.
func TestInboxesShareNothing(t *testing.T) {
	x := made(t, 1, nil)
	attach(t, x, 0, 1, 2)
	subscribe(t, x, 1, 1, anySize())
	var lists [][]api.Event
	for round := range 3 {
		for n := range 5 {
			publish(t, x, 2, sized(10*round+n))
		}
		l, _, _ := x.Inbox(1)
		lists = append(lists, l)
	}
	spoil(lists[1], api.Event{attr("bad", num(77))})
	for _, round := range []int{0, 2} {
		for n, e := range lists[round] {
			if !slices.Equal(e, sized(10*round+n)) {
				t.Errorf("P1: Inbox, the event %d of round %d: %v", n, round, e)
			}
		}
	}
	publish(t, x, 2, sized(1))
	hears(t, x, 1, 1)
}

// TestTreesAreApart: what is done in one tree is not seen in another.
func TestTreesAreApart(t *testing.T) {
	x, y := made(t, 2, row(2)), made(t, 2, row(2))
	was := lookAt(y)
	attach(t, x, 0, 1)
	subscribe(t, x, 1, 1, more(1))
	if is := lookAt(y); !reflect.DeepEqual(was, is) {
		t.Errorf("P1: a tree shows what was done in another one: %v, was %v", is, was)
	}
	isErr(t, "P6: Subscribe of another tree's client", y.Subscribe(1, 1, more(1)), api.ErrNone)
	isErr(t, "P8: Publish of another tree's client", y.Publish(1, sized(5)), api.ErrNone)
	if n := y.Drain(); n != 0 {
		t.Errorf("P9: Drain of another tree: %d", n)
	}
	attach(t, y, 1, 1)
	subscribe(t, y, 1, 1, more(1))
	attach(t, x, 0, 2)
	publish(t, x, 2, sized(5))
	hears(t, y, 1)
	hears(t, x, 1, 5)
}

func TestNilIsAsGoodAsEmpty(t *testing.T) {
	x, k := herald.New(1, nil)
	y, l := herald.New(1, [][2]int{})
	if x == nil || y == nil || k != api.OK || l != api.OK {
		t.Fatalf("P1: New of nil and of an empty list: %v, %d, %v, %d", x, k, y, l)
	}
	attach(t, x, 0, 1)
	isErr(t, "P1: Subscribe with nil", x.Subscribe(1, 1, nil), api.ErrFilter)
	isErr(t, "P1: Subscribe with an empty list", x.Subscribe(1, 1, api.Filter{}), api.ErrFilter)
	isErr(t, "P1: Publish with nil", x.Publish(1, nil), api.ErrEvent)
	isErr(t, "P1: Publish with an empty list", x.Publish(1, api.Event{}), api.ErrEvent)
}
