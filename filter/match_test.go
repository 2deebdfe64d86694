package filter_test

import (
	"math"
	"slices"
	"strings"
	"testing"

	"herald/api"
	"herald/filter"
)

func matchesOne(t *testing.T, e api.Event, f api.Filter) bool {
	t.Helper()
	l, k := filter.Match(e, f)
	if k != api.OK || len(l) > 1 || len(l) == 1 && l[0] != 0 {
		t.Errorf("P2: Match of %+v and %+v: %v, %d", e, f, l, k)
	}
	return len(l) == 1
}

func TestMatchOneWant(t *testing.T) {
	for _, c := range []struct {
		w        api.Want
		yes, not []api.Value
	}{
		{wantAny("a"), []api.Value{num(0), num(math.MinInt), text(""), text("x"), flag(0), flag(1)}, nil},
		{want("a", api.Equal, num(0)), []api.Value{num(0)}, []api.Value{num(1), text(""), flag(0)}},
		{want("a", api.Equal, text("ab")), []api.Value{text("ab")}, []api.Value{text("a"), text("abc"), text("AB"), text(""), num(0)}},
		{want("a", api.Equal, text("")), []api.Value{text("")}, []api.Value{text("\x00"), num(0), flag(0)}},
		{want("a", api.Equal, flag(1)), []api.Value{flag(1)}, []api.Value{flag(0), num(1), text("1")}},
		{want("a", api.Other, num(0)), []api.Value{num(1), num(-1), num(math.MaxInt)}, []api.Value{num(0), text(""), text("x"), flag(0), flag(1)}},
		{want("a", api.Other, text("ab")), []api.Value{text(""), text("a"), text("abc")}, []api.Value{text("ab"), num(0), flag(1)}},
		{want("a", api.Other, flag(0)), []api.Value{flag(1)}, []api.Value{flag(0), num(1), text("x")}},
		{want("a", api.Less, num(5)), []api.Value{num(4), num(-5), num(math.MinInt)}, []api.Value{num(5), num(6), num(math.MaxInt), text(""), flag(0), flag(1)}},
		{want("a", api.Less, num(math.MinInt)), nil, []api.Value{num(math.MinInt), num(0), num(math.MaxInt), text(""), flag(0)}},
		{want("a", api.LessEq, num(5)), []api.Value{num(5), num(4), num(math.MinInt)}, []api.Value{num(6), num(math.MaxInt), text(""), flag(0)}},
		{want("a", api.LessEq, num(math.MinInt)), []api.Value{num(math.MinInt)}, []api.Value{num(math.MinInt + 1), num(math.MaxInt)}},
		{want("a", api.More, num(5)), []api.Value{num(6), num(math.MaxInt)}, []api.Value{num(5), num(4), num(math.MinInt), text("x"), flag(1)}},
		{want("a", api.More, num(math.MaxInt)), nil, []api.Value{num(math.MaxInt), num(0), num(math.MinInt)}},
		{want("a", api.MoreEq, num(5)), []api.Value{num(5), num(6), num(math.MaxInt)}, []api.Value{num(4), num(math.MinInt), text("x"), flag(1)}},
		{want("a", api.MoreEq, num(math.MaxInt)), []api.Value{num(math.MaxInt)}, []api.Value{num(math.MaxInt - 1), num(math.MinInt)}},
		{want("a", api.Prefix, text("ab")), []api.Value{text("ab"), text("abc"), text("abab")}, []api.Value{text("a"), text("aab"), text("bab"), text(""), num(0), flag(0)}},
		{want("a", api.Suffix, text("ab")), []api.Value{text("ab"), text("cab"), text("abab")}, []api.Value{text("b"), text("abb"), text("aba"), text(""), num(0), flag(0)}},
		{want("a", api.Part, text("ab")), []api.Value{text("ab"), text("cabc"), text("abc"), text("cab")}, []api.Value{text("a"), text("acb"), text("ba"), text(""), num(0), flag(0)}},
		{want("a", api.Prefix, text("")), []api.Value{text(""), text("x")}, []api.Value{num(0), flag(0)}},
		{want("a", api.Suffix, text("")), []api.Value{text(""), text("x")}, []api.Value{num(0), flag(0)}},
		{want("a", api.Part, text("")), []api.Value{text(""), text("x")}, []api.Value{num(0), flag(0)}},
		{want("a", api.Part, text("\xa9")), []api.Value{text("é"), text("\xa9")}, []api.Value{text("\xc3"), text("e")}},
		{want("a", api.Part, text(strings.Repeat("x", maxText))), []api.Value{text(strings.Repeat("x", maxText))}, []api.Value{text(strings.Repeat("x", maxText-1))}},
	} {
		for _, v := range c.yes {
			if !matchesOne(t, api.Event{attr("a", v)}, api.Filter{c.w}) {
				t.Errorf("P2: %+v lets %+v by", c.w, v)
			}
		}
		for _, v := range c.not {
			if matchesOne(t, api.Event{attr("a", v)}, api.Filter{c.w}) {
				t.Errorf("P2: %+v does not let %+v by", c.w, v)
			}
		}
	}
}

func TestMatchEachWantWithEachValue(t *testing.T) {
	for _, w := range someWants("size") {
		for _, v := range someValues() {
			if got := matchesOne(t, api.Event{attr("size", v)}, api.Filter{w}); got != lets(w, v) {
				t.Errorf("P2: whether %+v lets %+v by: %v", w, v, got)
			}
		}
	}
}

func TestMatchSeveralWants(t *testing.T) {
	e := api.Event{attr("a", num(5)), attr("ab", flag(1)), attr("name", text("aba")), attr("size", num(5))}
	for i, c := range []struct {
		f      api.Filter
		wanted bool
	}{
		{api.Filter{wantAny("a"), wantAny("ab"), wantAny("name"), wantAny("size")}, true},
		{api.Filter{wantAny("size"), wantAny("a")}, true},
		{api.Filter{wantAny("size"), wantAny("b")}, false},
		{api.Filter{wantAny("b"), wantAny("size")}, false},
		{api.Filter{wantAny("siz")}, false},
		{api.Filter{wantAny("sizes")}, false},
		{api.Filter{want("b", api.Other, num(1))}, false},
		{api.Filter{want("size", api.More, num(3)), want("size", api.Less, num(9))}, true},
		{api.Filter{want("size", api.More, num(3)), want("size", api.Less, num(5))}, false},
		{api.Filter{want("size", api.Less, num(5)), want("size", api.More, num(3))}, false},
		{api.Filter{want("name", api.Prefix, text("ab")), want("name", api.Suffix, text("ba")), want("name", api.Part, text("b")), want("name", api.Other, text("ab")), want("ab", api.Equal, flag(1)), want("a", api.LessEq, num(5))}, true},
		{api.Filter{want("name", api.Prefix, text("ab")), want("name", api.Suffix, text("ba")), want("name", api.Part, text("b")), want("name", api.Other, text("ab")), want("ab", api.Equal, flag(1)), want("a", api.Less, num(5))}, false},
		{api.Filter{want("ab", api.Equal, num(5))}, false},
		{slices.Repeat(api.Filter{want("size", api.Equal, num(5))}, maxWants), true},
	} {
		if got := matchesOne(t, e, c.f); got != c.wanted {
			t.Errorf("P2: whether filter %d matches: %v", i, got)
		}
	}
}

func TestMatchHowManyFilters(t *testing.T) {
	e := api.Event{attr("size", num(500))}
	for _, n := range []int{0, 1, 2, 7, 64, 1000} {
		var l []api.Filter
		var wanted []int
		for i := range n {
			l = append(l, api.Filter{want("size", api.More, num(i*37%1000))})
			if i*37%1000 < 500 {
				wanted = append(wanted, i)
			}
		}
		if got, k := filter.Match(e, l...); !slices.Equal(got, wanted) || k != api.OK {
			t.Errorf("P2: Match of %d filters: %v, %d, want %v", n, got, k, wanted)
		}
	}
	if got, k := filter.Match(e); len(got) != 0 || k != api.OK {
		t.Errorf("P2: Match of no filter: %v, %d", got, k)
	}
	if got, k := filter.Match(e, []api.Filter(nil)...); len(got) != 0 || k != api.OK {
		t.Errorf("P1: Match of a nil list: %v, %d", got, k)
	}
}

func TestMatchErrors(t *testing.T) {
	e := api.Event{attr("size", num(5))}
	good, bad := api.Filter{wantAny("size")}, api.Filter{wantAny("")}
	noMatch := api.Filter{wantAny("name")}
	for i, c := range []struct {
		e      api.Event
		l      []api.Filter
		wanted api.Errno
	}{
		{nil, nil, api.ErrEvent},
		{api.Event{}, nil, api.ErrEvent},
		{nil, []api.Filter{good}, api.ErrEvent},
		{nil, []api.Filter{bad}, api.ErrEvent},
		{api.Event{attr("size", flag(2))}, []api.Filter{nil, bad}, api.ErrEvent},
		{e, []api.Filter{nil}, api.ErrFilter},
		{e, []api.Filter{{}}, api.ErrFilter},
		{e, []api.Filter{bad}, api.ErrFilter},
		{e, []api.Filter{bad, good}, api.ErrFilter},
		{e, []api.Filter{good, bad}, api.ErrFilter},
		{e, []api.Filter{good, good, bad, good}, api.ErrFilter},
		{e, []api.Filter{noMatch, nil}, api.ErrFilter},
		{e, []api.Filter{{wantAny("name"), wantAny("")}}, api.ErrFilter},
		{e, []api.Filter{slices.Repeat(good, maxWants+1)}, api.ErrFilter},
	} {
		if got, k := filter.Match(c.e, c.l...); len(got) != 0 || k != c.wanted {
			t.Errorf("P2: Match %d: %v, %d, want %d", i, got, k, c.wanted)
		}
	}
}
