package filter_test

import (
	"math"
	"slices"
	"strings"
	"testing"

	"herald/api"
	"herald/filter"
)

func TestCheckEventNames(t *testing.T) {
	for _, name := range goodNames() {
		if k := filter.CheckEvent(api.Event{attr(name, num(1))}); k != api.OK {
			t.Errorf("P2: an event with the name %q: %d", name, k)
		}
	}
	for _, name := range badNames() {
		if k := filter.CheckEvent(api.Event{attr(name, num(1))}); k != api.ErrEvent {
			t.Errorf("P2: no event, for the name %q: %d", name, k)
		}
	}
}

func TestCheckEventValues(t *testing.T) {
	for _, v := range someValues() {
		if k := filter.CheckEvent(api.Event{attr("a", v)}); k != api.OK {
			t.Errorf("P2: an event with the value %+v: %d", v, k)
		}
	}
	for _, v := range badValues() {
		if k := filter.CheckEvent(api.Event{attr("a", v)}); k != api.ErrEvent {
			t.Errorf("P2: no event, for the value %+v: %d", v, k)
		}
	}
}

func TestCheckEventHowMany(t *testing.T) {
	var e api.Event
	for n := range maxAttrs + 3 {
		wanted := api.ErrEvent
		if n >= 1 && n <= maxAttrs {
			wanted = api.OK
		}
		if k := filter.CheckEvent(e); k != wanted {
			t.Errorf("P2: CheckEvent of %d attributes: %d", n, k)
		}
		e = append(e, attr(string([]byte{'a' + byte(n)}), num(n)))
	}
	if k := filter.CheckEvent(api.Event{}); k != api.ErrEvent {
		t.Errorf("P2: CheckEvent of an empty list: %d", k)
	}
	if k := filter.CheckEvent(make(api.Event, 100000)); k != api.ErrEvent {
		t.Errorf("P2: CheckEvent of a very long list: %d", k)
	}
}

func TestCheckEventOrder(t *testing.T) {
	long := strings.Repeat("x", maxName)
	for _, c := range []struct {
		names  []string
		wanted api.Errno
	}{
		{[]string{"a", "b"}, api.OK},
		{[]string{"a", "ab"}, api.OK},
		{[]string{"ab", "b"}, api.OK},
		{[]string{"a", "aa", "aaa", "ab", "b", long[1:], long, "z"}, api.OK},
		{[]string{"a", "a"}, api.ErrEvent},
		{[]string{"b", "a"}, api.ErrEvent},
		{[]string{"ab", "a"}, api.ErrEvent},
		{[]string{"b", "ab"}, api.ErrEvent},
		{[]string{long, long}, api.ErrEvent},
		{[]string{long, long[1:]}, api.ErrEvent},
		{[]string{"a", "b", "a"}, api.ErrEvent},
		{[]string{"a", "c", "b"}, api.ErrEvent},
		{[]string{"b", "a", "c"}, api.ErrEvent},
		{[]string{"a", "b", "c", "d", "e", "f", "g", "g"}, api.ErrEvent},
		{[]string{"a", "b", "c", "d", "e", "f", "h", "g"}, api.ErrEvent},
	} {
		var e api.Event
		for i, name := range c.names {
			e = append(e, attr(name, num(i)))
		}
		if k := filter.CheckEvent(e); k != c.wanted {
			t.Errorf("P2: CheckEvent with the names %q: %d, want %d", c.names, k, c.wanted)
		}
	}
}

func TestCheckEventAtEachPlace(t *testing.T) {
	whole := api.Event{attr("a", num(0)), attr("b", text("")), attr("c", flag(1)), attr("d", num(1)), attr("e", text("x")), attr("f", flag(0)), attr("g", num(2)), attr("h", num(3))}
	if k := filter.CheckEvent(whole); k != api.OK {
		t.Fatalf("P2: the whole event: %d", k)
	}
	for i := range whole {
		for _, a := range []api.Attr{attr(whole[i].Name, flag(2)), attr(whole[i].Name, api.Value{}), attr(whole[i].Name+"\x00", num(1)), attr("", num(1))} {
			e := slices.Clone(whole)
			e[i] = a
			if k := filter.CheckEvent(e); k != api.ErrEvent {
				t.Errorf("P2: CheckEvent with %+v at %d: %d", a, i, k)
			}
		}
	}
}

func TestCheckWants(t *testing.T) {
	for _, w := range someWants("size") {
		if k := filter.Check(api.Filter{w}); k != api.OK {
			t.Errorf("P2: a filter with %+v: %d", w, k)
		}
	}
	for _, name := range goodNames() {
		if k := filter.Check(api.Filter{wantAny(name)}); k != api.OK {
			t.Errorf("P2: a filter with the name %q: %d", name, k)
		}
	}
	for _, w := range badWants() {
		if k := filter.Check(api.Filter{w}); k != api.ErrFilter {
			t.Errorf("P2: no filter, for %+v: %d", w, k)
		}
	}
}

// TestCheckWayAndKind: each way with each kind of value; a kind is allowed where its letter stands.
func TestCheckWayAndKind(t *testing.T) {
	values := map[rune]api.Value{'0': {}, 'i': num(0), 't': text(""), 'f': flag(0)}
	for way, kinds := range map[int]string{
		math.MinInt: "", -1: "", 0: "", api.Any: "0", api.Equal: "itf", api.Other: "itf",
		api.Less: "i", api.LessEq: "i", api.More: "i", api.MoreEq: "i",
		api.Prefix: "t", api.Suffix: "t", api.Part: "t", 11: "", math.MaxInt: "",
	} {
		for letter, v := range values {
			wanted := api.ErrFilter
			if strings.ContainsRune(kinds, letter) {
				wanted = api.OK
			}
			if k := filter.Check(api.Filter{want("a", way, v)}); k != wanted {
				t.Errorf("P2: Check of the way %d with %+v: %d, want %d", way, v, k, wanted)
			}
		}
	}
}

func TestCheckHowMany(t *testing.T) {
	for n := range maxWants + 3 {
		wanted := api.ErrFilter
		if n >= 1 && n <= maxWants {
			wanted = api.OK
		}
		if k := filter.Check(slices.Repeat(api.Filter{wantAny("a")}, n)); k != wanted {
			t.Errorf("P2: Check of %d wants: %d", n, k)
		}
	}
	if k := filter.Check(nil); k != api.ErrFilter {
		t.Errorf("P2: Check of nil: %d", k)
	}
	if k := filter.Check(slices.Repeat(api.Filter{wantAny("a")}, 100000)); k != api.ErrFilter {
		t.Errorf("P2: Check of a very long list: %d", k)
	}
}

func TestCheckAtEachPlace(t *testing.T) {
	// Names of wants need neither rise nor differ.
	whole := api.Filter{wantAny("z"), want("a", api.Less, num(1)), want("z", api.Equal, flag(0)), want("b", api.Part, text("x")), want("a", api.Less, num(1)), want("b", api.Other, num(1))}
	if k := filter.Check(whole); k != api.OK {
		t.Fatalf("P2: the whole filter: %d", k)
	}
	for i := range whole {
		for _, w := range []api.Want{{}, wantAny(""), want("a", api.Less, text("")), want("a", 11, num(1)), want("a", api.Any, num(0))} {
			f := slices.Clone(whole)
			f[i] = w
			if k := filter.Check(f); k != api.ErrFilter {
				t.Errorf("P2: Check with %+v at %d: %d", w, i, k)
			}
		}
	}
}
