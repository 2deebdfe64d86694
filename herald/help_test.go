package herald_test

import (
	"fmt"
	"math"
	"slices"
	"testing"

	"herald/api"
	"herald/herald"
)

// The limits are written out here, so that a change of package api's would be seen.
const (
	maxBrokers = 8
	maxClients = 16
	maxFilters = 64
	maxInbox   = 16
)

func num(n int) api.Value { return api.Value{Kind: api.Int, N: n} }

func text(s string) api.Value { return api.Value{Kind: api.Text, S: s} }

func want(name string, way int, v api.Value) api.Want {
	return api.Want{Name: name, Way: way, Value: v}
}

func one(name string, way int, v api.Value) api.Filter { return api.Filter{want(name, way, v)} }

func more(n int) api.Filter { return one("size", api.More, num(n)) }

func moreEq(n int) api.Filter { return one("size", api.MoreEq, num(n)) }

func equal(n int) api.Filter { return one("size", api.Equal, num(n)) }

func anySize() api.Filter { return one("size", api.Any, api.Value{}) }

func attr(name string, v api.Value) api.Attr { return api.Attr{Name: name, Value: v} }

// sized: the event that size is n.
func sized(n int) api.Event { return api.Event{attr("size", num(n))} }

func key(client, id int) api.Key { return api.Key{Client: client, Id: id} }

// row: the edges 0 - 1 - 2 and so on.
func row(brokers int) [][2]int {
	var l [][2]int
	for b := 1; b < brokers; b++ {
		l = append(l, [2]int{b - 1, b})
	}
	return l
}

// star: the edges of a broker to all the others.
func star(brokers, middle int) [][2]int {
	var l [][2]int
	for b := range brokers {
		if b != middle {
			l = append(l, [2]int{middle, b})
		}
	}
	return l
}

// both: a row 5 - 2 - 0 - 7, with a star about 2 (4 and 6) and one about 7 (1 and 3).
func both() [][2]int {
	return [][2]int{{5, 2}, {0, 2}, {0, 7}, {2, 4}, {6, 2}, {7, 1}, {3, 7}}
}

func made(t *testing.T, brokers int, edges [][2]int) *herald.Tree {
	t.Helper()
	x, k := herald.New(brokers, edges)
	if x == nil || k != api.OK {
		t.Fatalf("P5: New(%d, %v): %v, %d", brokers, edges, x, k)
	}
	return x
}

func isErr(t *testing.T, what string, got, wanted api.Errno) {
	t.Helper()
	if got != wanted {
		t.Fatalf("%s: %d, want %d", what, got, wanted)
	}
}

func attach(t *testing.T, x *herald.Tree, broker int, clients ...int) {
	t.Helper()
	for _, c := range clients {
		isErr(t, fmt.Sprintf("P5: Attach(%d, %d)", c, broker), x.Attach(c, broker), api.OK)
	}
}

func subscribe(t *testing.T, x *herald.Tree, client, id int, f api.Filter) {
	t.Helper()
	isErr(t, fmt.Sprintf("P6: Subscribe(%d, %d, %v)", client, id, f), x.Subscribe(client, id, f), api.OK)
}

func unsubscribe(t *testing.T, x *herald.Tree, client, id int) {
	t.Helper()
	isErr(t, fmt.Sprintf("P6: Unsubscribe(%d, %d)", client, id), x.Unsubscribe(client, id), api.OK)
}

func publish(t *testing.T, x *herald.Tree, client int, e api.Event) {
	t.Helper()
	isErr(t, fmt.Sprintf("P8: Publish(%d, %v)", client, e), x.Publish(client, e), api.OK)
}

// hears takes a client's inbox: which sizes came, and nothing lost.
func hears(t *testing.T, x *herald.Tree, client int, wanted ...int) {
	t.Helper()
	hearsAndLoses(t, x, client, 0, wanted...)
}

func hearsAndLoses(t *testing.T, x *herald.Tree, client, wantedLost int, wanted ...int) {
	t.Helper()
	var events []api.Event
	for _, n := range wanted {
		events = append(events, sized(n))
	}
	l, lost, k := x.Inbox(client)
	if !slices.EqualFunc(l, events, slices.Equal) || lost != wantedLost || k != api.OK {
		t.Fatalf("P10: Inbox(%d): %v, %d lost, %d, want %v, %d lost", client, l, lost, k, events, wantedLost)
	}
}

func isHeld(t *testing.T, x *herald.Tree, broker, from int, wanted ...api.Key) {
	t.Helper()
	if l, k := x.Held(broker, from); k != api.OK || !slices.Equal(l, wanted) {
		t.Fatalf("P10: Held(%d, %d): %v, %d, want %v", broker, from, l, k, wanted)
	}
}

// waits holds against Links what waits, as from, to, how many; of all other links nothing.
func waits(t *testing.T, x *herald.Tree, wanted ...[3]int) {
	t.Helper()
	var l [][3]int
	for _, k := range x.Links() {
		if k.Waiting != 0 {
			l = append(l, [3]int{k.From, k.To, k.Waiting})
		}
	}
	if !slices.Equal(l, wanted) {
		t.Fatalf("P10: what waits: %v, want %v", l, wanted)
	}
}

// goesOut lets all come that waits in a link, and tells of each message what it did: + and the key of a filter that is held now,
// or - and a key that is held no more.
func goesOut(t *testing.T, x *herald.Tree, from, to int) []string {
	t.Helper()
	var l []string
	for {
		was, _ := x.Held(to, from)
		if k := x.Step(from, to); k != api.OK {
			isErr(t, "P9: Step of an empty link", k, api.ErrNone)
			return l
		}
		is, _ := x.Held(to, from)
		l = append(l, turned(was, is))
	}
}

func turned(was, is []api.Key) string {
	s := ""
	for _, k := range is {
		if !slices.Contains(was, k) {
			s += fmt.Sprintf("+%d.%d", k.Client, k.Id)
		}
	}
	for _, k := range was {
		if !slices.Contains(is, k) {
			s += fmt.Sprintf("-%d.%d", k.Client, k.Id)
		}
	}
	return s
}

func outIs(t *testing.T, x *herald.Tree, from, to int, wanted ...string) {
	t.Helper()
	if l := goesOut(t, x, from, to); !slices.Equal(l, wanted) {
		t.Fatalf("P7: what goes over %d to %d: %q, want %q", from, to, l, wanted)
	}
}

// look is all that a tree shows without changing.
type look struct {
	links []api.Link
	held  map[[2]int][]api.Key
	none  map[[2]int]bool
}

func lookAt(x interface {
	Links() []api.Link
	Held(int, int) ([]api.Key, api.Errno)
}) look {
	l := look{x.Links(), map[[2]int][]api.Key{}, map[[2]int]bool{}}
	for b := -1; b <= maxBrokers; b++ {
		for from := -2; from <= maxBrokers; from++ {
			side := [2]int{b, from}
			keys, k := x.Held(b, from)
			l.none[side] = k != api.OK
			if len(keys) > 0 {
				l.held[side] = keys
			}
		}
	}
	return l
}

func oddNumbers() []int {
	return []int{math.MinInt, math.MinInt + 1, -1 << 40, -256, -2, -1, maxBrokers, maxBrokers + 1, 256, 1 << 32, math.MaxInt - 1, math.MaxInt}
}
