package wire

import "herald/api"

// The first bytes.
const (
	eventMark  = 69
	filterMark = 70
)

// What is put here has been checked: every count and every length fits into its byte.

func putEvent(b []byte, e api.Event) []byte {
	b = append(b, eventMark, byte(len(e)))
	for _, a := range e {
		b = putValue(putString(b, a.Name), a.Value)
	}
	return b
}

func putFilter(b []byte, f api.Filter) []byte {
	b = append(b, filterMark, byte(len(f)))
	for _, w := range f {
		b = append(putString(b, w.Name), byte(w.Way))
		if w.Way != api.Any {
			b = putValue(b, w.Value)
		}
	}
	return b
}

func putValue(b []byte, v api.Value) []byte {
	b = append(b, byte(v.Kind))
	switch v.Kind {
	case api.Int:
		return putNumber(b, v.N)
	case api.Text:
		return putString(b, v.S)
	}
	return append(b, byte(v.N))
}

func putString(b []byte, s string) []byte {
	return append(append(b, byte(len(s))), s...)
}

func putNumber(b []byte, n int) []byte {
	for shift := 56; shift >= 0; shift -= 8 {
		b = append(b, byte(n>>shift))
	}
	return b
}
