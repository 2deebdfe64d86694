package filter_test

import (
	"math"
	"strings"

	"herald/api"
)

// The limits are written out here, so that a change of package api's would be seen.
const (
	maxName  = 16
	maxText  = 32
	maxAttrs = 8
	maxWants = 6
)

func num(n int) api.Value { return api.Value{Kind: api.Int, N: n} }

func text(s string) api.Value { return api.Value{Kind: api.Text, S: s} }

func flag(n int) api.Value { return api.Value{Kind: api.Flag, N: n} }

func attr(name string, v api.Value) api.Attr { return api.Attr{Name: name, Value: v} }

func want(name string, way int, v api.Value) api.Want {
	return api.Want{Name: name, Way: way, Value: v}
}

func wantAny(name string) api.Want { return want(name, api.Any, api.Value{}) }

// lets is the document's paragraph on wants once more, as plain as can be.
func lets(w api.Want, v api.Value) bool {
	if w.Way == api.Any {
		return true
	}
	if v.Kind != w.Value.Kind {
		return false
	}
	n, m, s, p := v.N, w.Value.N, v.S, w.Value.S
	begins := len(p) <= len(s) && s[:min(len(p), len(s))] == p
	ends := len(p) <= len(s) && s[max(0, len(s)-len(p)):] == p
	within := false
	for i := 0; i+len(p) <= len(s); i++ {
		within = within || s[i:i+len(p)] == p
	}
	same := n == m && s == p
	return [...]bool{
		api.Equal: same, api.Other: !same,
		api.Less: n < m, api.LessEq: n <= m, api.More: n > m, api.MoreEq: n >= m,
		api.Prefix: begins, api.Suffix: ends, api.Part: within,
	}[w.Way]
}

func someNumbers() []int {
	return []int{math.MinInt, math.MinInt + 1, math.MinInt + 2, -6, -1, 0, 1, 2, 5, math.MaxInt - 2, math.MaxInt - 1, math.MaxInt}
}

func someTexts() []string {
	a := func(n int) string { return strings.Repeat("a", n) }
	return []string{
		"", "a", "b", "aa", "ab", "ba", "aba", "bab", "abc", "\x00", "\xff", "\xff\x00", "é", "A",
		a(30), a(31), a(32), a(30) + "b", "b" + a(30), a(31) + "b", "b" + a(31), a(15) + "b" + a(16),
		strings.Repeat("ab", 16), strings.Repeat("ba", 16), strings.Repeat("\x00", 32),
	}
}

func someValues() []api.Value {
	l := []api.Value{flag(0), flag(1)}
	for _, n := range someNumbers() {
		l = append(l, num(n))
	}
	for _, s := range someTexts() {
		l = append(l, text(s))
	}
	return l
}

// someWants holds every way with every value of someValues that it takes.
func someWants(name string) []api.Want {
	l := []api.Want{wantAny(name)}
	for _, v := range someValues() {
		for _, way := range waysOf(v.Kind) {
			l = append(l, want(name, way, v))
		}
	}
	return l
}

// waysOf: the ways that take a value of that kind.
func waysOf(kind int) []int {
	switch kind {
	case api.Int:
		return []int{api.Equal, api.Other, api.Less, api.LessEq, api.More, api.MoreEq}
	case api.Text:
		return []int{api.Equal, api.Other, api.Prefix, api.Suffix, api.Part}
	case api.Flag:
		return []int{api.Equal, api.Other}
	}
	return []int{api.Any}
}

func badNames() []string {
	l := []string{"", "A", "Z", "a1", "a b", " ", "a\x00", "\x00", "é", "\xff", "a_b", "aB", "Ba", "naéme", strings.Repeat("x", maxName+1), strings.Repeat("x", 1000), strings.Repeat("x", maxName-1) + "X"}
	for b := range 256 {
		if b < 'a' || b > 'z' {
			l = append(l, string([]byte{byte(b)}), string([]byte{'q', byte(b), 'q'}))
		}
	}
	return l
}

func goodNames() []string {
	l := []string{"size", "az", strings.Repeat("x", maxName), strings.Repeat("z", maxName-1), "abcdefghijklmnop", "qrstuvwxyz"}
	for b := byte('a'); b <= 'z'; b++ {
		l = append(l, string([]byte{b}))
	}
	return l
}

func badValues() []api.Value {
	l := []api.Value{
		{Kind: api.Int, S: "x"}, {Kind: api.Int, N: 5, S: "5"}, {Kind: api.Int, S: "\x00"},
		{Kind: api.Text, N: 1}, {Kind: api.Text, N: -1, S: "x"}, {Kind: api.Text, N: 1, S: "x"}, {Kind: api.Text, N: math.MinInt},
		{Kind: api.Text, S: strings.Repeat("x", maxText+1)}, {Kind: api.Text, S: strings.Repeat("x", 256+5)}, {Kind: api.Text, S: strings.Repeat("x", 100000)},
		{Kind: api.Flag, S: "x"}, {Kind: api.Flag, N: 1, S: "x"},
	}
	for _, n := range []int{2, -1, 3, 256, 257, math.MinInt, math.MaxInt} {
		l = append(l, flag(n))
	}
	for _, kind := range []int{0, -1, 4, 5, 256, 257, 258, 259, math.MinInt, math.MaxInt} {
		l = append(l, api.Value{Kind: kind}, api.Value{Kind: kind, N: 1}, api.Value{Kind: kind, S: "x"})
	}
	return l
}

func badWays() []int {
	return []int{0, -1, 11, 12, 256, 257, 258, 266, math.MinInt, math.MaxInt}
}

// badWants: what is no want, for its name, its way, or its value.
func badWants() []api.Want {
	var l []api.Want
	for _, name := range badNames() {
		l = append(l, wantAny(name), want(name, api.Equal, num(1)), want(name, api.Less, num(math.MinInt)), want(name, api.Part, text("")))
	}
	for _, way := range badWays() {
		l = append(l, want("a", way, api.Value{}), want("a", way, num(0)), want("a", way, text("")), want("a", way, flag(1)))
	}
	for way := api.Equal; way <= api.Part; way++ {
		for _, v := range badValues() {
			l = append(l, want("a", way, v))
		}
	}
	for _, v := range []api.Value{num(0), num(1), text(""), text("x"), flag(0), flag(1), {N: 1}, {N: math.MinInt}, {S: "x"}, {Kind: 4}, {Kind: -1}} {
		l = append(l, want("a", api.Any, v))
	}
	for _, way := range []int{api.Less, api.LessEq, api.More, api.MoreEq} {
		l = append(l, want("a", way, text("")), want("a", way, text("5")), want("a", way, flag(0)), want("a", way, flag(1)))
	}
	for _, way := range []int{api.Prefix, api.Suffix, api.Part} {
		l = append(l, want("a", way, num(0)), want("a", way, num(5)), want("a", way, flag(0)), want("a", way, flag(1)))
	}
	return l
}
