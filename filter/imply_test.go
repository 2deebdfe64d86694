package filter_test

import (
	"math"
	"strings"
	"testing"

	"herald/api"
	"herald/filter"
)

// tellers gives values that tell two wants apart, if any value at all does. Among numbers: the ends, and what stands at and
// beside the wants' own. Among texts: the wants' own, these with strange bytes at either end (as far as there is room), and
// texts that are strange throughout.
func tellers(a, b api.Want) []api.Value {
	l := []api.Value{flag(0), flag(1), num(math.MinInt), num(math.MaxInt)}
	for _, n := range []int{a.Value.N, b.Value.N} {
		l = append(l, num(n), num(n-1), num(n+1))
	}
	c := strangeByte(a.Value.S + b.Value.S)
	for _, s := range []string{"", a.Value.S, b.Value.S} {
		for _, x := range []string{s, c + s, s + c, c + s + c, c + c + s} {
			if len(x) <= maxText {
				l = append(l, text(x))
			}
		}
	}
	return l
}

// strangeByte does not stand in s, which is shorter than there are bytes.
func strangeByte(s string) string {
	for b := byte('0'); ; b++ {
		if x := string([]byte{b}); !strings.Contains(s, x) {
			return x
		}
	}
}

func impliedByTellers(a, b api.Want) bool {
	for _, v := range tellers(a, b) {
		if lets(a, v) && !lets(b, v) {
			return false
		}
	}
	return a.Name == b.Name
}

func TestImpliesEveryPair(t *testing.T) {
	l := someWants("size")
	for _, a := range l {
		for _, b := range l {
			if got := filter.Implies(a, b); got != impliedByTellers(a, b) {
				t.Errorf("P3: whether %+v implies %+v: %v", a, b, got)
			}
		}
	}
}

func TestImpliesByHand(t *testing.T) {
	least, greatest := num(math.MinInt), num(math.MaxInt)
	long := strings.Repeat("xy", maxText/2)
	for _, c := range []struct {
		way       int
		v         api.Value
		way2      int
		v2        api.Value
		one, back bool
	}{
		{api.Less, num(5), api.LessEq, num(4), true, true}, // the document's examples
		{api.Prefix, text("ab"), api.Part, text("b"), true, false},
		{api.Prefix, text("ab"), api.Other, text("ba"), true, false},
		{api.Other, flag(0), api.Equal, flag(1), true, true},
		{api.Less, least, api.Any, api.Value{}, true, false},
		{api.Less, least, api.Equal, least, true, false},
		{api.Less, least, api.Other, least, true, false},
		{api.Less, least, api.Less, least, true, true},
		{api.Less, least, api.Prefix, text("x"), true, false},
		{api.Less, least, api.Equal, flag(0), true, false},
		{api.More, greatest, api.Less, least, true, true},
		{api.More, greatest, api.Suffix, text(""), true, false},
		{api.Less, greatest, api.Other, greatest, true, true},
		{api.Other, least, api.More, least, true, true},
		{api.Other, least, api.MoreEq, num(math.MinInt + 1), true, true},
		{api.Other, num(0), api.LessEq, greatest, true, false},
		{api.Other, num(0), api.Any, api.Value{}, true, false},
		{api.LessEq, least, api.Equal, least, true, true},
		{api.LessEq, greatest, api.MoreEq, least, true, true},
		{api.Equal, num(5), api.Less, num(6), true, false},
		{api.Equal, num(5), api.Less, num(5), false, false},
		{api.More, num(5), api.Less, num(5), false, false},
		{api.Equal, num(0), api.Equal, flag(0), false, false},
		{api.Equal, num(0), api.Equal, text(""), false, false},
		{api.Part, text(""), api.Any, api.Value{}, true, false},
		{api.Part, text(""), api.Suffix, text(""), true, true},
		{api.Part, text(""), api.Equal, text(""), false, true},
		{api.Other, text(""), api.Part, text(""), true, false},
		{api.Other, text(""), api.Prefix, text("a"), false, true},
		{api.Prefix, text(long), api.Equal, text(long), true, true},
		{api.Suffix, text(long), api.Prefix, text(long), true, true},
		{api.Part, text(long), api.Prefix, text("xyx"), true, false},
		{api.Part, text(long[1:]), api.Prefix, text("yxy"), false, false},
		{api.Prefix, text(long[1:]), api.Equal, text(long[1:]), false, true},
		{api.Prefix, text("aba"), api.Suffix, text("a"), false, false},
		{api.Part, text("ab"), api.Other, text("cabc"), false, false},
		{api.Other, flag(0), api.Other, flag(1), false, false},
		{api.Equal, flag(0), api.Any, api.Value{}, true, false},
		{api.Any, api.Value{}, api.Any, api.Value{}, true, true},
	} {
		a, b := want("size", c.way, c.v), want("size", c.way2, c.v2)
		if one, back := filter.Implies(a, b), filter.Implies(b, a); one != c.one || back != c.back {
			t.Errorf("P3: %+v and %+v: %v and back %v, want %v and %v", a, b, one, back, c.one, c.back)
		}
	}
}

func TestImpliesDifferentNames(t *testing.T) {
	pairs := [][2]string{{"a", "b"}, {"a", "aa"}, {"aa", "a"}, {strings.Repeat("x", maxName), strings.Repeat("x", maxName-1)}}
	for _, p := range pairs {
		first, second := someWants(p[0]), someWants(p[1])
		for i := range first {
			if filter.Implies(first[i], second[i]) || filter.Implies(first[i], wantAny(p[1])) || filter.Implies(want(p[0], api.Less, num(math.MinInt)), second[i]) {
				t.Errorf("P3: %+v implies a want with the name %q", first[i], p[1])
			}
		}
	}
}

func TestImpliesNoWant(t *testing.T) {
	for _, bad := range badWants() {
		for _, good := range []api.Want{wantAny(bad.Name), wantAny("a"), want("a", api.Less, num(math.MinInt)), want("a", api.Equal, bad.Value), want("a", api.Part, text(""))} {
			if filter.Implies(bad, good) || filter.Implies(good, bad) {
				t.Errorf("P3: %+v, no want, implies or is implied by %+v", bad, good)
			}
		}
		if filter.Implies(bad, bad) {
			t.Errorf("P3: %+v, no want, implies itself", bad)
		}
	}
}

func TestCoversByHand(t *testing.T) {
	more3, more5, atLeast7 := want("size", api.More, num(3)), want("size", api.More, num(5)), want("size", api.MoreEq, num(7))
	name, nothing := wantAny("name"), want("size", api.Less, num(math.MinInt))
	for i, c := range []struct {
		f, g      api.Filter
		one, back bool
	}{
		{api.Filter{more3}, api.Filter{atLeast7, name}, true, false}, // the document's example
		{api.Filter{more3}, api.Filter{name, atLeast7}, true, false},
		{api.Filter{more3}, api.Filter{more5}, true, false},
		{api.Filter{more3}, api.Filter{more3}, true, true},
		{api.Filter{more3, more5}, api.Filter{more5}, true, true},
		{api.Filter{more5, more3, more5, more3, more3, more3}, api.Filter{more5}, true, true},
		{api.Filter{more3, name}, api.Filter{name, more3}, true, true},
		{api.Filter{more3, name}, api.Filter{atLeast7}, false, false},
		{api.Filter{name, more3}, api.Filter{atLeast7}, false, false},
		{api.Filter{name}, api.Filter{more3}, false, false},
		{api.Filter{more5, name}, api.Filter{more3, name}, false, true},
		{api.Filter{name, more5}, api.Filter{name, more3}, false, true},
		// Together they leave the number 4 alone, but neither of them implies it.
		{api.Filter{want("size", api.Equal, num(4))}, api.Filter{more3, want("size", api.Less, num(5))}, false, true},
		// Nothing is let by, but of the other name nothing is said.
		{api.Filter{name}, api.Filter{nothing}, false, false},
		{api.Filter{more3, more5, want("size", api.Equal, text("x"))}, api.Filter{nothing}, true, false},
		{api.Filter{want("up", api.Equal, flag(1))}, api.Filter{want("up", api.Other, flag(0))}, true, true},
		{api.Filter{wantAny("a"), wantAny("b"), wantAny("c"), wantAny("d"), wantAny("e"), wantAny("f")}, api.Filter{wantAny("f"), wantAny("e"), wantAny("d"), wantAny("c"), wantAny("b"), wantAny("a")}, true, true},
	} {
		if one, back := filter.Covers(c.f, c.g), filter.Covers(c.g, c.f); one != c.one || back != c.back {
			t.Errorf("P3: pair %d: %v and back %v, want %v and %v", i, one, back, c.one, c.back)
		}
	}
}

func TestCoversOfSingleWantsIsImplies(t *testing.T) {
	l := append(someWants("a"), wantAny("b"), want("b", api.Less, num(math.MinInt)))
	for i, a := range l {
		for j := i % 7; j < len(l); j += 7 {
			if filter.Covers(api.Filter{l[j]}, api.Filter{a}) != filter.Implies(a, l[j]) {
				t.Errorf("P3: Covers and Implies differ on %+v and %+v", a, l[j])
			}
		}
	}
}

func TestCoversNoFilter(t *testing.T) {
	good := api.Filter{wantAny("a")}
	bad := []api.Filter{nil, {}, {{}}, make(api.Filter, 1000)}
	seven := api.Filter{}
	for range maxWants + 1 {
		seven = append(seven, wantAny("a"))
	}
	bad = append(bad, seven)
	for _, w := range badWants() {
		bad = append(bad, api.Filter{w}, api.Filter{wantAny("a"), w}, api.Filter{w, wantAny("a")})
	}
	for _, f := range bad {
		if filter.Covers(f, good) || filter.Covers(good, f) || filter.Covers(f, f) {
			t.Errorf("P3: %.100v, no filter, covers or is covered", f)
		}
	}
	if !filter.Covers(seven[:maxWants], good) || !filter.Covers(good, seven[:maxWants]) {
		t.Errorf("P3: a filter of as many wants as there may be covers and is covered")
	}
}
