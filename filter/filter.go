// Package filter: what matches, and what covers: see DOC.md.
package filter

import "herald/api"

// CheckEvent tells whether there is an event (P2).
func CheckEvent(e api.Event) api.Errno {
	if len(e) < 1 || len(e) > api.MaxAttrs {
		return api.ErrEvent
	}
	for i, a := range e {
		if !goodName(a.Name) || !goodValue(a.Value) {
			return api.ErrEvent
		}
		if i > 0 && e[i-1].Name >= a.Name {
			return api.ErrEvent
		}
	}
	return api.OK
}

// Check tells whether there is a filter (P2).
func Check(f api.Filter) api.Errno {
	if len(f) < 1 || len(f) > api.MaxWants {
		return api.ErrFilter
	}
	for _, w := range f {
		if !goodWant(w) {
			return api.ErrFilter
		}
	}
	return api.OK
}

// Match tells which filters match an event (P2).
func Match(e api.Event, l ...api.Filter) ([]int, api.Errno) {
	if k := CheckEvent(e); k != api.OK {
		return nil, k
	}
	var found []int
	for i, f := range l {
		if k := Check(f); k != api.OK {
			return nil, k
		}
		if matches(f, e) {
			found = append(found, i)
		}
	}
	return found, api.OK
}

// Implies tells whether a want implies another one (P3).
func Implies(a, b api.Want) bool {
	return goodWant(a) && goodWant(b) && a.Name == b.Name && within(a, b)
}

// Covers tells whether a filter covers another one (P3).
func Covers(f, g api.Filter) bool {
	if Check(f) != api.OK || Check(g) != api.OK {
		return false
	}
	for _, w := range f {
		if !impliedByOne(w, g) {
			return false
		}
	}
	return true
}

func impliedByOne(w api.Want, g api.Filter) bool {
	for _, v := range g {
		if Implies(v, w) {
			return true
		}
	}
	return false
}
