package filter_test

import (
	"math/rand"
	"reflect"
	"slices"
	"testing"

	"herald/api"
	"herald/filter"
)

// A maker makes events and filters, many of them wrong in some place; the same ones at each run.
type maker struct {
	r                   *rand.Rand
	badNames            []string
	someValues          []api.Value
	badValues           []api.Value
	someWants, badWants []api.Want
}

func newMaker() maker {
	return maker{rand.New(rand.NewSource(1)), badNames(), someValues(), badValues(), someWants("a"), badWants()}
}

func pick[T any](m maker, l []T) T { return l[m.r.Intn(len(l))] }

func (m maker) often() bool { return m.r.Intn(12) > 0 }

func (m maker) name() string {
	if m.often() {
		return pick(m, []string{"a", "b", "c", "size"})
	}
	return pick(m, m.badNames)
}

func (m maker) value() api.Value {
	if m.often() {
		return pick(m, m.someValues)
	}
	return pick(m, m.badValues)
}

func (m maker) want() api.Want {
	if m.often() {
		w := pick(m, m.someWants)
		w.Name = m.name()
		return w
	}
	if m.often() {
		return pick(m, m.badWants)
	}
	return want(m.name(), m.r.Intn(14)-1, m.value())
}

// event makes a list with spare room behind it, in which something stands.
func (m maker) event() api.Event {
	l := make(api.Event, m.r.Intn(10), 24)
	for i := range l[:cap(l)] {
		l[:cap(l)][i] = attr(m.name(), m.value())
	}
	if m.often() {
		slices.SortFunc(l, func(a, b api.Attr) int { return slices.Compare([]byte(a.Name), []byte(b.Name)) })
	}
	return l
}

func (m maker) filter() api.Filter {
	if !m.often() {
		return nil
	}
	l := make(api.Filter, m.r.Intn(4), 16)
	for i := range l[:cap(l)] {
		l[:cap(l)][i] = m.want()
	}
	return l
}

func (m maker) filters() []api.Filter {
	l := make([]api.Filter, m.r.Intn(5), 8)
	for i := range l[:cap(l)] {
		l[:cap(l)][i] = m.filter()
	}
	return l
}

// answer is all that the calls of the package say of the same things.
type answer struct {
	event, check, match api.Errno
	found               []int
	implies             bool
	covers              [2]bool
}

func askAll(e api.Event, f, g api.Filter, a, b api.Want, l []api.Filter) answer {
	var x answer
	x.event, x.check = filter.CheckEvent(e), filter.Check(f)
	x.found, x.match = filter.Match(e, l...)
	x.implies = filter.Implies(a, b)
	x.covers = [2]bool{filter.Covers(f, g), filter.Covers(g, f)}
	return x
}

// wholeOf copies a list with its spare room.
func wholeOf[T any](l []T) []T { return slices.Clone(l[:cap(l)]) }

func wholesOf(l []api.Filter) [][]api.Want {
	var out [][]api.Want
	for _, f := range l[:cap(l)] {
		out = append(out, wholeOf(f))
	}
	return out
}

// TestAnything: whatever is handed in, no call panics, the answer is the same twice, an error stands alone, and nothing that
// was handed in has changed.
func TestAnything(t *testing.T) {
	m := newMaker()
	tally := map[api.Errno]int{}
	for range 20000 {
		e, f, g, a, b, l := m.event(), m.filter(), m.filter(), m.want(), m.want(), m.filters()
		eWas, fWas, gWas, lWas := wholeOf(e), wholeOf(f), wholeOf(g), wholesOf(l)
		x, y := askAll(e, f, g, a, b, l), askAll(e, f, g, a, b, l)
		if !reflect.DeepEqual(x, y) {
			t.Fatalf("P1: two answers to the same: %+v, %+v", x, y)
		}
		if x.match != api.OK && len(x.found) != 0 {
			t.Fatalf("P1: an error and a result: %+v", x)
		}
		if !reflect.DeepEqual(eWas, wholeOf(e)) || !reflect.DeepEqual(fWas, wholeOf(f)) || !reflect.DeepEqual(gWas, wholeOf(g)) || !reflect.DeepEqual(lWas, wholesOf(l)) {
			t.Fatalf("P1: a list that was handed in has changed")
		}
		if wanted := matchByWords(e, l); !slices.Equal(x.found, wanted.found) || x.match != wanted.match {
			t.Fatalf("P2: Match of %+v and %+v: %v, %d, want %v, %d", e, l, x.found, x.match, wanted.found, wanted.match)
		}
		tally[x.match]++
	}
	if tally[api.OK] < 500 || tally[api.ErrEvent] < 500 || tally[api.ErrFilter] < 500 {
		t.Errorf("the maker makes too little of something: %v", tally)
	}
}

// matchByWords is P2's words on Match, on top of the two checks, which are tested by themselves.
func matchByWords(e api.Event, l []api.Filter) answer {
	if filter.CheckEvent(e) != api.OK {
		return answer{match: api.ErrEvent}
	}
	for _, f := range l {
		if filter.Check(f) != api.OK {
			return answer{match: api.ErrFilter}
		}
	}
	var x answer
	for i, f := range l {
		all := true
		for _, w := range f {
			all = all && slices.ContainsFunc(e, func(a api.Attr) bool { return a.Name == w.Name && lets(w, a.Value) })
		}
		if all {
			x.found = append(x.found, i)
		}
	}
	return x
}

func TestAnswerIsNewMemory(t *testing.T) {
	e := api.Event{attr("size", num(5))}
	yes, no := api.Filter{wantAny("size")}, api.Filter{wantAny("name")}
	l := []api.Filter{yes, no, yes, yes, no, yes, yes}
	wanted := []int{0, 2, 3, 5, 6}
	first, _ := filter.Match(e, l...)
	second, _ := filter.Match(e, l...)
	for i := range first[:cap(first)] {
		first[:cap(first)][i] = -7
	}
	if !slices.Equal(second, wanted) {
		t.Errorf("P1: two answers share memory: %v", second)
	}
	if slices.Contains(second[:cap(second)], -7) {
		t.Errorf("P1: two answers share spare room")
	}
	if third, k := filter.Match(e, l...); !slices.Equal(third, wanted) || k != api.OK {
		t.Errorf("P1: an answer was kept: %v, %d", third, k)
	}
}

func TestListsAreNotKept(t *testing.T) {
	e, f := api.Event{attr("size", num(5))}, api.Filter{want("size", api.Less, num(6))}
	if l, k := filter.Match(e, f); !slices.Equal(l, []int{0}) || k != api.OK {
		t.Errorf("P2: Match: %v, %d", l, k)
	}
	e[0].Value.N = 7
	if l, k := filter.Match(e, f); len(l) != 0 || k != api.OK {
		t.Errorf("P1: Match of a changed event: %v, %d", l, k)
	}
	f[0].Way = api.More
	if l, k := filter.Match(e, f); !slices.Equal(l, []int{0}) || k != api.OK {
		t.Errorf("P1: Match of a changed filter: %v, %d", l, k)
	}
}

func TestNilIsAsGoodAsEmpty(t *testing.T) {
	if a, b := filter.CheckEvent(nil), filter.CheckEvent(api.Event{}); a != b {
		t.Errorf("P1: CheckEvent of nil and of an empty list: %d, %d", a, b)
	}
	if a, b := filter.Check(nil), filter.Check(api.Filter{}); a != b {
		t.Errorf("P1: Check of nil and of an empty list: %d, %d", a, b)
	}
	if filter.Implies(api.Want{}, api.Want{}) || filter.Covers(nil, nil) || filter.Covers(api.Filter{}, api.Filter{}) {
		t.Errorf("P1: nothing implies or covers nothing")
	}
}
