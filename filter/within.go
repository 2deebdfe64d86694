package filter

import (
	"math"

	"herald/api"
)

// within tells whether each value that a lets by, b does. Both are wants of one name.
func within(a, b api.Want) bool {
	if b.Way == api.Any || letsNothingBy(a) {
		return true
	}
	// Any lets by values of every kind, each other way those of one kind alone.
	if a.Way == api.Any || a.Value.Kind != b.Value.Kind {
		return false
	}
	// Within its kind, Other holds up one value only.
	if b.Way == api.Other {
		return !letsBy(a, b.Value)
	}
	switch a.Value.Kind {
	case api.Int:
		return numbersWithin(a, b)
	case api.Text:
		return textsWithin(a, b)
	}
	return flagsWithin(a, b)
}

// letsNothingBy: only beyond the ends of the numbers is there no value; to each text and each flag there is another one.
func letsNothingBy(w api.Want) bool {
	return w.Way == api.Less && w.Value.N == math.MinInt || w.Way == api.More && w.Value.N == math.MaxInt
}

// numbersWithin: b is not Other and so lets by a span without a gap; it lets by all that stands between two numbers that it lets by.
func numbersWithin(a, b api.Want) bool {
	low, high := ends(a)
	return letsBy(b, number(low)) && letsBy(b, number(high))
}

// ends gives the least and the greatest number that a want lets by. It lets some by: else the steps by one would wrap round.
func ends(w api.Want) (low, high int) {
	low, high = math.MinInt, math.MaxInt
	n := w.Value.N
	switch w.Way {
	case api.Equal:
		low, high = n, n
	case api.Other:
		if n == low {
			low++
		}
		if n == high {
			high--
		}
	case api.Less:
		n--
		fallthrough
	case api.LessEq:
		high = n
	case api.More:
		n++
		fallthrough
	case api.MoreEq:
		low = n
	}
	return low, high
}

func number(n int) api.Value { return api.Value{Kind: api.Int, N: n} }

// textsWithin: b is not Other.
func textsWithin(a, b api.Want) bool {
	// Other lets by all texts but one: too many for any b that leaves out more than one.
	if a.Way == api.Other {
		return b.Way != api.Equal && b.Value.S == ""
	}
	if !letsBy(b, a.Value) {
		return false
	}
	// Where a has no room for another text than its own, that one was all there is to ask.
	if a.Way == api.Equal || len(a.Value.S) == api.MaxText {
		return true
	}
	if b.Way == api.Equal {
		return false
	}
	// What stands in a's text stands in all that a lets by; but at an end only if a holds this end fast, or nothing is asked of it.
	return b.Way == api.Part || b.Way == a.Way || b.Value.S == ""
}

func flagsWithin(a, b api.Want) bool {
	for n := range 2 {
		v := api.Value{Kind: api.Flag, N: n}
		if letsBy(a, v) && !letsBy(b, v) {
			return false
		}
	}
	return true
}
