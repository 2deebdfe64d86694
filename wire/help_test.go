package wire_test

import (
	"encoding/binary"
	"math"
	"slices"
	"strings"

	"herald/api"
)

// The limits are written out here, so that a change of package api's would be seen.
const (
	maxName  = 16
	maxText  = 32
	maxAttrs = 8
	maxWants = 6
)

func num(n int) api.Value { return api.Value{Kind: api.Int, N: n} }

func text(s string) api.Value { return api.Value{Kind: api.Text, S: s} }

func flag(n int) api.Value { return api.Value{Kind: api.Flag, N: n} }

func attr(name string, v api.Value) api.Attr { return api.Attr{Name: name, Value: v} }

func want(name string, way int, v api.Value) api.Want {
	return api.Want{Name: name, Way: way, Value: v}
}

func wantAny(name string) api.Want { return want(name, api.Any, api.Value{}) }

func long(n int) string { return strings.Repeat("x", n) }

// bytesOf writes parts one behind the other: ints as bytes, strings as they are.
func bytesOf(parts ...any) string {
	var b []byte
	for _, p := range parts {
		switch x := p.(type) {
		case int:
			b = append(b, byte(x))
		case string:
			b = append(b, x...)
		}
	}
	return string(b)
}

// numberBytes is what the library makes of a number.
func numberBytes(n int) string {
	return string(binary.BigEndian.AppendUint64(nil, uint64(n)))
}

func someNumbers() []int {
	l := []int{math.MinInt, math.MinInt + 1, math.MaxInt - 1, math.MaxInt, 0x0102030405060708, -0x0102030405060708}
	for shift := range 63 {
		l = append(l, 1<<shift, 1<<shift-1, -1<<shift, -1<<shift-1)
	}
	return l
}

func someTexts() []string {
	return []string{"", "x", "x\x00", "\x00", "\xff", "é", "E\x01\x02up\x03\x01", "F", "AZ az 09", long(maxText - 1), long(maxText), strings.Repeat("\xff", maxText)}
}

func someValues() []api.Value {
	l := []api.Value{flag(0), flag(1)}
	for _, n := range someNumbers() {
		l = append(l, num(n))
	}
	for _, s := range someTexts() {
		l = append(l, text(s))
	}
	return l
}

func badValues() []api.Value {
	return []api.Value{
		{}, {Kind: 4}, {Kind: -1}, {Kind: 256 + api.Int}, {Kind: 256 + api.Flag}, {Kind: math.MinInt}, {Kind: math.MaxInt},
		flag(2), flag(-1), flag(256), flag(257), flag(math.MinInt),
		text(long(maxText + 1)), text(long(255)), text(long(256)), text(long(256 + 3)), text(long(100000)),
		{Kind: api.Int, S: "x"}, {Kind: api.Text, N: 1}, {Kind: api.Text, N: 256, S: "x"}, {Kind: api.Flag, S: "x"}, {N: 1}, {S: "x"},
	}
}

func badNames() []string {
	return []string{"", "A", "aB", "a1", "\x00", "a\x00", "é", "\xff", "`", "{", " a", long(maxName + 1), long(255), long(256), long(256 + 1), long(100000)}
}

// mostAttrs is an event that is as large as one can be.
func mostAttrs() api.Event {
	var e api.Event
	for i := range maxAttrs {
		e = append(e, attr(long(maxName-1)+string(rune('a'+i)), text(long(maxText))))
	}
	return e
}

// mostWants is a filter that is as large as one can be.
func mostWants() api.Filter {
	return slices.Repeat(api.Filter{want(long(maxName), api.Suffix, text(long(maxText)))}, maxWants)
}

func someEvents() []api.Event {
	l := []api.Event{
		{attr("up", flag(1))},
		{attr("a", num(-2)), attr("b", text("x\x00")), attr("c", flag(0))},
		{attr("a", num(0)), attr("ab", num(0)), attr("b", num(0))},
		{attr("name", text("anvil")), attr("size", num(9)), attr("up", flag(0))},
		{attr("a", flag(0)), attr("b", flag(1)), attr("c", num(1)), attr("d", num(2)), attr("e", num(3)), attr("f", text("")), attr("g", text("g")), attr("z", text("z"))},
		mostAttrs(),
	}
	for _, v := range someValues() {
		l = append(l, api.Event{attr("a", v)})
	}
	return l
}

func someFilters() []api.Filter {
	l := []api.Filter{
		{wantAny("up")},
		{wantAny("b"), wantAny("a"), wantAny("b")},
		{want("b", api.Prefix, text("x")), want("a", api.Other, flag(0)), wantAny("a")},
		{want("a", api.Equal, num(1)), want("a", api.Equal, text("1")), want("a", api.Equal, flag(1)), wantAny(long(maxName)), want("z", api.Part, text("")), want("a", api.MoreEq, num(-1))},
		mostWants(),
	}
	for _, v := range someValues() {
		for _, way := range waysOf(v.Kind) {
			l = append(l, api.Filter{want("a", way, v)})
		}
	}
	return l
}

// waysOf: the ways that take a value of that kind.
func waysOf(kind int) []int {
	switch kind {
	case api.Int:
		return []int{api.Equal, api.Other, api.Less, api.LessEq, api.More, api.MoreEq}
	case api.Text:
		return []int{api.Equal, api.Other, api.Prefix, api.Suffix, api.Part}
	}
	return []int{api.Equal, api.Other}
}

func badEvents() []api.Event {
	l := []api.Event{
		nil, {}, {{}}, make(api.Event, 1000), make(api.Event, 256+1),
		{attr("b", num(1)), attr("a", num(1))},
		{attr("a", num(1)), attr("a", num(1))},
		{attr("ab", num(1)), attr("a", num(1))},
		append(mostAttrs(), attr("z", num(1))),
	}
	for _, v := range badValues() {
		l = append(l, api.Event{attr("a", v)}, api.Event{attr("a", num(1)), attr("b", v), attr("c", num(1))})
	}
	for _, name := range badNames() {
		l = append(l, api.Event{attr(name, num(1))}, api.Event{attr(name, flag(1))})
	}
	return l
}

func badFilters() []api.Filter {
	l := []api.Filter{
		nil, {}, {{}}, make(api.Filter, 1000),
		append(mostWants(), wantAny("a")),
		slices.Repeat(api.Filter{wantAny("a")}, 256+1),
		{want("a", api.Less, text("5"))}, {want("a", api.MoreEq, flag(1))}, {want("a", api.Prefix, num(5))}, {want("a", api.Part, flag(0))},
	}
	for _, v := range append(badValues()[1:], num(0), num(1), text(""), flag(0)) {
		l = append(l, api.Filter{want("a", api.Any, v)})
	}
	for _, v := range badValues() {
		for way := api.Equal; way <= api.Part; way++ {
			l = append(l, api.Filter{want("a", way, v)}, api.Filter{wantAny("b"), want("a", way, v)})
		}
	}
	for _, name := range badNames() {
		l = append(l, api.Filter{wantAny(name)}, api.Filter{want(name, api.Other, num(1))})
	}
	for _, way := range []int{0, -1, 11, 256 + api.Any, 256 + api.Equal, math.MinInt, math.MaxInt} {
		l = append(l, api.Filter{want("a", way, num(1))}, api.Filter{want("a", way, api.Value{})})
	}
	return l
}
