package herald

import (
	"strings"

	"herald/api"
)

// copyOfFilter shares nothing with f, not even the bytes of its strings.
func copyOfFilter(f api.Filter) api.Filter {
	g := make(api.Filter, len(f))
	for i, w := range f {
		g[i] = api.Want{Name: strings.Clone(w.Name), Way: w.Way, Value: copyOfValue(w.Value)}
	}
	return g
}

// copyOfEvent shares nothing with e, not even the bytes of its strings.
func copyOfEvent(e api.Event) api.Event {
	g := make(api.Event, len(e))
	for i, a := range e {
		g[i] = api.Attr{Name: strings.Clone(a.Name), Value: copyOfValue(a.Value)}
	}
	return g
}

func copyOfValue(v api.Value) api.Value {
	v.S = strings.Clone(v.S)
	return v
}
