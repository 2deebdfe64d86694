package filter

import (
	"strings"

	"herald/api"
)

// matches and what it calls take only what was found to be a filter, and an event.
func matches(f api.Filter, e api.Event) bool {
	for _, w := range f {
		if !answers(e, w) {
			return false
		}
	}
	return true
}

func answers(e api.Event, w api.Want) bool {
	for _, a := range e {
		if a.Name == w.Name {
			return letsBy(w, a.Value)
		}
	}
	return false
}

func letsBy(w api.Want, v api.Value) bool {
	if w.Way == api.Any {
		return true
	}
	if w.Value.Kind != v.Kind {
		return false
	}
	switch w.Way {
	case api.Equal:
		return v == w.Value
	case api.Other:
		return v != w.Value
	case api.LessEq:
		if v == w.Value {
			return true
		}
		fallthrough
	case api.Less:
		return v.N < w.Value.N
	case api.MoreEq:
		if v == w.Value {
			return true
		}
		fallthrough
	case api.More:
		return v.N > w.Value.N
	case api.Prefix:
		return strings.HasPrefix(v.S, w.Value.S)
	case api.Suffix:
		return strings.HasSuffix(v.S, w.Value.S)
	case api.Part:
		return strings.Contains(v.S, w.Value.S)
	}
	return false
}
