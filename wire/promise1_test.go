package wire_test

import (
	"slices"
	"strings"
	"testing"
	"unsafe"

	"herald/api"
	"herald/wire"
)

// withRoom copies a list, with spare room behind it in which something stands.
func withRoom[T any](l []T, in T) []T {
	out := append(slices.Clip(slices.Clone(l)), in, in, in)
	return out[:len(l)]
}

// wholeOf copies a list with its spare room.
func wholeOf[T any](l []T) []T { return slices.Clone(l[:cap(l)]) }

// shares tells whether a lies within the memory of s.
func shares(a, s string) bool {
	if a == "" || s == "" {
		return false
	}
	from, at := uintptr(unsafe.Pointer(unsafe.StringData(s))), uintptr(unsafe.Pointer(unsafe.StringData(a)))
	return at+uintptr(len(a)) > from && at < from+uintptr(len(s))
}

func TestListsStayAsTheyAre(t *testing.T) {
	for _, e := range append(someEvents(), badEvents()...) {
		e := api.Event(withRoom(e, attr("room", num(7))))
		was := wholeOf(e)
		s, k := wire.PutEvent(e)
		again, q := wire.PutEvent(e)
		if !slices.Equal(wholeOf(e), was) {
			t.Fatalf("P1: PutEvent has changed its list: %+v", was)
		}
		if s != again || k != q || (s == "") != (k != api.OK) {
			t.Fatalf("P1: PutEvent answers %q, %d and %q, %d", s, k, again, q)
		}
	}
	for _, f := range append(someFilters(), badFilters()...) {
		f := api.Filter(withRoom(f, wantAny("room")))
		was := wholeOf(f)
		s, k := wire.PutFilter(f)
		again, q := wire.PutFilter(f)
		if !slices.Equal(wholeOf(f), was) {
			t.Fatalf("P1: PutFilter has changed its list: %+v", was)
		}
		if s != again || k != q || (s == "") != (k != api.OK) {
			t.Fatalf("P1: PutFilter answers %q, %d and %q, %d", s, k, again, q)
		}
	}
}

func TestListsAreNotKept(t *testing.T) {
	e, f := api.Event{attr("a", num(1))}, api.Filter{wantAny("a")}
	wire.PutEvent(e)
	wire.PutFilter(f)
	e[0], f[0] = attr("b", flag(1)), wantAny("c")
	if s, k := wire.PutEvent(e); s != bytesOf(69, 1, 1, "b", 3, 1) || k != api.OK {
		t.Errorf("P1: PutEvent of a changed event: %q, %d", s, k)
	}
	if s, k := wire.PutFilter(f); s != bytesOf(70, 1, 1, "c", 1) || k != api.OK {
		t.Errorf("P1: PutFilter of a changed filter: %q, %d", s, k)
	}
}

// spoil overwrites a list with its spare room.
func spoil[T any](l []T, with T) {
	for i := range l[:cap(l)] {
		l[:cap(l)][i] = with
	}
}

func TestEventsAreNewMemory(t *testing.T) {
	for _, e := range someEvents() {
		s, _ := wire.PutEvent(e)
		first, _ := wire.GetEvent(s)
		second, _ := wire.GetEvent(s)
		spoil(first, attr("spoilt", num(-7)))
		if !slices.Equal(second, e) || slices.Contains(second[:cap(second)], attr("spoilt", num(-7))) {
			t.Fatalf("P1: two answers of GetEvent share memory: %+v", second)
		}
		if third, k := wire.GetEvent(s); !slices.Equal(third, e) || k != api.OK {
			t.Fatalf("P1: GetEvent has kept an answer: %+v, %d", third, k)
		}
		for _, a := range second {
			if shares(a.Name, s) || shares(a.Value.S, s) {
				t.Fatalf("P1: what GetEvent answers lies in what was handed in: %+v", a)
			}
		}
	}
}

func TestFiltersAreNewMemory(t *testing.T) {
	for _, f := range someFilters() {
		s, _ := wire.PutFilter(f)
		first, _ := wire.GetFilter(s)
		second, _ := wire.GetFilter(s)
		spoil(first, wantAny("spoilt"))
		if !slices.Equal(second, f) || slices.Contains(second[:cap(second)], wantAny("spoilt")) {
			t.Fatalf("P1: two answers of GetFilter share memory: %+v", second)
		}
		if third, k := wire.GetFilter(s); !slices.Equal(third, f) || k != api.OK {
			t.Fatalf("P1: GetFilter has kept an answer: %+v, %d", third, k)
		}
		for _, w := range second {
			if shares(w.Name, s) || shares(w.Value.S, s) {
				t.Fatalf("P1: what GetFilter answers lies in what was handed in: %+v", w)
			}
		}
	}
}

func TestNilIsAsGoodAsEmpty(t *testing.T) {
	for _, e := range []api.Event{nil, {}, make(api.Event, 0, 5)} {
		if s, k := wire.PutEvent(e); s != "" || k != api.ErrEvent {
			t.Errorf("P1: PutEvent of nothing: %q, %d", s, k)
		}
	}
	for _, f := range []api.Filter{nil, {}, make(api.Filter, 0, 5)} {
		if s, k := wire.PutFilter(f); s != "" || k != api.ErrFilter {
			t.Errorf("P1: PutFilter of nothing: %q, %d", s, k)
		}
	}
}

// TestAfterGivingUp: a call that gave up leaves nothing behind for the next one.
func TestAfterGivingUp(t *testing.T) {
	good := bytesOf(69, 1, 1, "a", 2, 3, "xyz")
	for i := range good {
		refused(t, good[:i])
		if e, k := wire.GetEvent(strings.Clone(good)); !slices.Equal(e, api.Event{attr("a", text("xyz"))}) || k != api.OK {
			t.Errorf("P1: GetEvent after giving up: %+v, %d", e, k)
		}
	}
}
