package wire

import (
	"errors"
	"strings"

	"herald/api"
)

var errTooFew = errors.New("the bytes end too early")

// A reader takes bytes away from the front, and gives up by panic where there are too few. It only tells the parts apart: whether
// what it found is an event or a filter, the checks of package filter tell.
type reader struct {
	rest string
}

func (r *reader) event() api.Event {
	if r.oneByte() != eventMark {
		return nil
	}
	var e api.Event
	for range r.oneByte() {
		e = append(e, api.Attr{Name: r.string(), Value: r.value()})
	}
	return e
}

func (r *reader) filter() api.Filter {
	if r.oneByte() != filterMark {
		return nil
	}
	var f api.Filter
	for range r.oneByte() {
		f = append(f, r.want())
	}
	return f
}

func (r *reader) want() api.Want {
	w := api.Want{Name: r.string(), Way: r.oneByte()}
	if w.Way != api.Any {
		w.Value = r.value()
	}
	return w
}

func (r *reader) value() api.Value {
	v := api.Value{Kind: r.oneByte()}
	switch v.Kind {
	case api.Int:
		v.N = r.number()
	case api.Text:
		v.S = r.string()
	case api.Flag:
		v.N = r.oneByte()
	}
	return v
}

func (r *reader) number() int {
	n := 0
	for range 8 {
		n = n<<8 | r.oneByte()
	}
	return n
}

// string copies: what comes out must not hold on to what was handed in.
func (r *reader) string() string {
	return strings.Clone(r.take(r.oneByte()))
}

func (r *reader) oneByte() int {
	return int(r.take(1)[0])
}

func (r *reader) take(n int) string {
	if n > len(r.rest) {
		panic(errTooFew)
	}
	taken := r.rest[:n]
	r.rest = r.rest[n:]
	return taken
}
