package wire_test

import (
	"slices"
	"testing"

	"herald/api"
	"herald/wire"
)

// eventCases holds events with their bytes, written out by hand.
func eventCases() map[string]api.Event {
	return map[string]api.Event{
		bytesOf(69, 1, 2, 117, 112, 3, 1):                                                 {attr("up", flag(1))},
		bytesOf(69, 1, 2, "up", 3, 0):                                                     {attr("up", flag(0))},
		bytesOf(69, 1, 1, "a", 2, 0):                                                      {attr("a", text(""))},
		bytesOf(69, 1, 1, "z", 1, 0, 0, 0, 0, 0, 0, 1, 2):                                 {attr("z", num(258))},
		bytesOf(69, 1, 1, "a", 1, 0, 0, 0, 0, 0, 0, 0, 0):                                 {attr("a", num(0))},
		bytesOf(69, 1, 1, "a", 1, 1, 2, 3, 4, 5, 6, 7, 8):                                 {attr("a", num(0x0102030405060708))},
		bytesOf(69, 1, 1, "a", 1, "\xff\xff\xff\xff", "\xff\xff\xff\xff"):                 {attr("a", num(-1))},
		bytesOf(69, 1, 1, "a", 1, 127, 255, 255, 255, 255, 255, 255, 255):                 {attr("a", num(1<<63-1))},
		bytesOf(69, 1, 1, "a", 1, 128, 0, 0, 0, 0, 0, 0, 0):                               {attr("a", num(-1<<63))},
		bytesOf(69, 3, 1, "a", 3, 1, 2, "ab", 2, 3, "x\x00y", 1, "b", 1, numberBytes(-2)): {attr("a", flag(1)), attr("ab", text("x\x00y")), attr("b", num(-2))},
		bytesOf(69, 1, maxName, long(maxName), 2, maxText, long(maxText)):                 {attr(long(maxName), text(long(maxText)))},
	}
}

// filterCases holds filters with their bytes, written out by hand.
func filterCases() map[string]api.Filter {
	return map[string]api.Filter{
		bytesOf(70, 1, 2, "up", 1):                                             {wantAny("up")},
		bytesOf(70, 2, 1, "b", 1, 1, "a", 1):                                   {wantAny("b"), wantAny("a")},
		bytesOf(70, 1, 2, "up", 2, 3, 1):                                       {want("up", api.Equal, flag(1))},
		bytesOf(70, 1, 2, "up", 3, 3, 0):                                       {want("up", api.Other, flag(0))},
		bytesOf(70, 1, 1, "a", 2, 2, 1, "x"):                                   {want("a", api.Equal, text("x"))},
		bytesOf(70, 1, 1, "a", 3, 1, numberBytes(3)):                           {want("a", api.Other, num(3))},
		bytesOf(70, 1, 1, "a", 4, 1, 0, 0, 0, 0, 0, 0, 0, 5):                   {want("a", api.Less, num(5))},
		bytesOf(70, 1, 1, "a", 5, 1, numberBytes(-5)):                          {want("a", api.LessEq, num(-5))},
		bytesOf(70, 1, 1, "a", 6, 1, 127, "\xff\xff\xff\xff\xff\xff\xff"):      {want("a", api.More, num(1<<63-1))},
		bytesOf(70, 1, 1, "a", 7, 1, 128, 0, 0, 0, 0, 0, 0, 0):                 {want("a", api.MoreEq, num(-1<<63))},
		bytesOf(70, 1, 1, "a", 8, 2, 2, "ab"):                                  {want("a", api.Prefix, text("ab"))},
		bytesOf(70, 1, 1, "a", 9, 2, 0):                                        {want("a", api.Suffix, text(""))},
		bytesOf(70, 1, 1, "a", 10, 2, 32, long(32)):                            {want("a", api.Part, text(long(32)))},
		bytesOf(70, 3, 1, "b", 8, 2, 1, "x", 1, "b", 1, 16, long(16), 3, 3, 0): {want("b", api.Prefix, text("x")), wantAny("b"), want(long(16), api.Other, flag(0))},
	}
}

func TestPutAndGetEventByHand(t *testing.T) {
	for s, e := range eventCases() {
		if got, k := wire.PutEvent(e); got != s || k != api.OK {
			t.Errorf("P4: PutEvent(%+v) = %q, %d, want %q", e, got, k, s)
		}
		if got, k := wire.GetEvent(s); !slices.Equal(got, e) || k != api.OK {
			t.Errorf("P4: GetEvent(%q) = %+v, %d, want %+v", s, got, k, e)
		}
	}
}

func TestPutAndGetFilterByHand(t *testing.T) {
	for s, f := range filterCases() {
		if got, k := wire.PutFilter(f); got != s || k != api.OK {
			t.Errorf("P4: PutFilter(%+v) = %q, %d, want %q", f, got, k, s)
		}
		if got, k := wire.GetFilter(s); !slices.Equal(got, f) || k != api.OK {
			t.Errorf("P4: GetFilter(%q) = %+v, %d, want %+v", s, got, k, f)
		}
	}
}

func TestPutNumbers(t *testing.T) {
	for _, n := range someNumbers() {
		s := bytesOf(69, 1, 1, "a", 1, numberBytes(n))
		if got, k := wire.PutEvent(api.Event{attr("a", num(n))}); got != s || k != api.OK {
			t.Errorf("P4: PutEvent of the number %d: %q, %d, want %q", n, got, k, s)
		}
	}
}

func TestPutWhatIsNoEvent(t *testing.T) {
	for _, e := range badEvents() {
		if s, k := wire.PutEvent(e); s != "" || k != api.ErrEvent {
			t.Errorf("P4: PutEvent of no event, %+v: %.300q, %d", e, s, k)
		}
	}
}

func TestPutWhatIsNoFilter(t *testing.T) {
	for _, f := range badFilters() {
		if s, k := wire.PutFilter(f); s != "" || k != api.ErrFilter {
			t.Errorf("P4: PutFilter of no filter, %+v: %.300q, %d", f, s, k)
		}
	}
}

// TestPutAtTheLimits: each limit alone, at it and one beyond it.
func TestPutAtTheLimits(t *testing.T) {
	for n := range maxAttrs + 3 {
		var e api.Event
		for i := range n {
			e = append(e, attr(string(rune('a'+i)), num(i)))
		}
		if s, k := wire.PutEvent(e); (k == api.OK) != (n >= 1 && n <= maxAttrs) || (s != "") != (k == api.OK) {
			t.Errorf("P4: PutEvent of %d attributes: %q, %d", n, s, k)
		}
	}
	for n := range maxWants + 3 {
		if s, k := wire.PutFilter(slices.Repeat(api.Filter{wantAny("a")}, n)); (k == api.OK) != (n >= 1 && n <= maxWants) || (s != "") != (k == api.OK) {
			t.Errorf("P4: PutFilter of %d wants: %q, %d", n, s, k)
		}
	}
	for n := range maxText + 3 {
		if s, k := wire.PutEvent(api.Event{attr("a", text(long(n)))}); (k == api.OK) != (n <= maxText) || (s != "") != (k == api.OK) {
			t.Errorf("P4: PutEvent of a text of %d bytes: %q, %d", n, s, k)
		}
	}
	for n := range maxName + 3 {
		if s, k := wire.PutFilter(api.Filter{wantAny(long(n))}); (k == api.OK) != (n >= 1 && n <= maxName) || (s != "") != (k == api.OK) {
			t.Errorf("P4: PutFilter of a name of %d bytes: %q, %d", n, s, k)
		}
	}
}
