package wire_test

import (
	"encoding/binary"
	"slices"
	"strings"
	"testing"

	"herald/api"
	"herald/filter"
	"herald/wire"
)

// The document's section Bytes once more, in another shape: each function cuts a part off the front, and tells whether there was
// one.

func cutString(s string) (part, rest string, ok bool) {
	if s == "" || len(s) < 1+int(s[0]) {
		return "", "", false
	}
	end := 1 + int(s[0])
	return s[1:end], s[end:], true
}

func cutValue(s string) (v api.Value, rest string, ok bool) {
	switch {
	case len(s) >= 9 && s[0] == api.Int:
		return num(int(binary.BigEndian.Uint64([]byte(s[1:9])))), s[9:], true
	case len(s) >= 2 && s[0] == api.Text:
		part, rest, ok := cutString(s[1:])
		return text(part), rest, ok
	case len(s) >= 2 && s[0] == api.Flag && s[1] <= 1:
		return flag(int(s[1])), s[2:], true
	}
	return api.Value{}, "", false
}

func cutAttr(s string) (a api.Attr, rest string, ok bool) {
	if a.Name, rest, ok = cutString(s); ok {
		a.Value, rest, ok = cutValue(rest)
	}
	return a, rest, ok
}

func cutWant(s string) (w api.Want, rest string, ok bool) {
	if w.Name, rest, ok = cutString(s); !ok || rest == "" {
		return w, "", false
	}
	w.Way, rest = int(rest[0]), rest[1:]
	if w.Way != api.Any {
		w.Value, rest, ok = cutValue(rest)
	}
	return w, rest, ok
}

func all[T any](s string, mark byte, cut func(string) (T, string, bool)) (l []T, ok bool) {
	if len(s) < 2 || s[0] != mark {
		return nil, false
	}
	rest := s[2:]
	for range s[1] {
		var x T
		if x, rest, ok = cut(rest); !ok {
			return nil, false
		}
		l = append(l, x)
	}
	return l, rest == ""
}

func eventByWords(s string) (api.Event, api.Errno) {
	if l, ok := all(s, 69, cutAttr); ok && filter.CheckEvent(l) == api.OK {
		return l, api.OK
	}
	return nil, api.ErrBytes
}

func filterByWords(s string) (api.Filter, api.Errno) {
	if l, ok := all(s, 70, cutWant); ok && filter.Check(l) == api.OK {
		return l, api.OK
	}
	return nil, api.ErrBytes
}

// compare holds both calls against the document's words, and tells whether s was an event or a filter.
func compare(t *testing.T, s string) bool {
	e, k := wire.GetEvent(s)
	if wanted, errno := eventByWords(s); !slices.Equal(e, wanted) || (e == nil) != (wanted == nil) || k != errno {
		t.Fatalf("P4: GetEvent(%q) = %+v, %d, want %+v, %d", s, e, k, wanted, errno)
	}
	f, q := wire.GetFilter(s)
	if wanted, errno := filterByWords(s); !slices.Equal(f, wanted) || (f == nil) != (wanted == nil) || q != errno {
		t.Fatalf("P4: GetFilter(%q) = %+v, %d, want %+v, %d", s, f, q, wanted, errno)
	}
	if back, errno := wire.PutEvent(e); k == api.OK && (back != s || errno != api.OK) {
		t.Fatalf("P4: PutEvent of GetEvent(%q) = %q, %d", s, back, errno)
	}
	if back, errno := wire.PutFilter(f); q == api.OK && (back != s || errno != api.OK) {
		t.Fatalf("P4: PutFilter of GetFilter(%q) = %q, %d", s, back, errno)
	}
	return k == api.OK || q == api.OK
}

// refused: s is bytes of nothing, for either call.
func refused(t *testing.T, s string) {
	t.Helper()
	if e, k := wire.GetEvent(s); e != nil || k != api.ErrBytes {
		t.Errorf("P4: GetEvent(%.300q) = %+v, %d", s, e, k)
	}
	if f, k := wire.GetFilter(s); f != nil || k != api.ErrBytes {
		t.Errorf("P4: GetFilter(%.300q) = %+v, %d", s, f, k)
	}
}

func TestGetEventOfWhatWasPut(t *testing.T) {
	for _, e := range someEvents() {
		s, k := wire.PutEvent(e)
		if k != api.OK {
			t.Fatalf("P4: PutEvent(%+v): %d", e, k)
		}
		if got, k := wire.GetEvent(s); !slices.Equal(got, e) || k != api.OK {
			t.Errorf("P4: GetEvent(%q) = %+v, %d, want %+v", s, got, k, e)
		}
		if f, k := wire.GetFilter(s); f != nil || k != api.ErrBytes {
			t.Errorf("P4: GetFilter of an event, %q: %+v, %d", s, f, k)
		}
		refused(t, "F"+s[1:])
	}
}

func TestGetFilterOfWhatWasPut(t *testing.T) {
	for _, f := range someFilters() {
		s, k := wire.PutFilter(f)
		if k != api.OK {
			t.Fatalf("P4: PutFilter(%+v): %d", f, k)
		}
		if got, k := wire.GetFilter(s); !slices.Equal(got, f) || k != api.OK {
			t.Errorf("P4: GetFilter(%q) = %+v, %d, want %+v", s, got, k, f)
		}
		if e, k := wire.GetEvent(s); e != nil || k != api.ErrBytes {
			t.Errorf("P4: GetEvent of a filter, %q: %+v, %d", s, e, k)
		}
	}
}

// someBytes: what was put, of all the events and filters of the tests.
func someBytes() []string {
	var l []string
	for _, e := range someEvents() {
		s, _ := wire.PutEvent(e)
		l = append(l, s)
	}
	for _, f := range someFilters() {
		s, _ := wire.PutFilter(f)
		l = append(l, s)
	}
	return l
}

func TestGetOfTooFewAndTooMany(t *testing.T) {
	for _, s := range someBytes() {
		for i := range s {
			refused(t, s[:i])
		}
		for _, more := range []string{"\x00", "\x01", "E", "F", "\xff", s, long(1000)} {
			refused(t, s+more)
			refused(t, more+s)
		}
	}
}

// TestGetWithoutOneByte: wherever a byte is taken away, or put in, the answer is what the words say.
func TestGetWithoutOneByte(t *testing.T) {
	for _, s := range someBytes() {
		for i := range len(s) {
			compare(t, s[:i]+s[i+1:])
			for _, b := range []int{0, 1, 'a', 255} {
				compare(t, bytesOf(s[:i], b, s[i:]))
			}
		}
	}
}

// TestGetWithAnotherByte: each byte of some events and filters in turn is replaced by each other one.
func TestGetWithAnotherByte(t *testing.T) {
	good := 0
	for s := range manyKinds() {
		for i := range len(s) {
			for b := range 256 {
				if compare(t, bytesOf(s[:i], b, s[i+1:])) {
					good++
				}
			}
		}
	}
	if good < 1000 {
		t.Errorf("too few of the bytes were good: %d", good)
	}
}

// manyKinds: the bytes that were written out by hand, without their meaning.
func manyKinds() map[string]bool {
	l := map[string]bool{}
	for s := range eventCases() {
		l[s] = true
	}
	for s := range filterCases() {
		l[s] = true
	}
	return l
}

// TestGetOfAllShortBytes: all strings of up to 6 bytes that begin as an event or a filter, of bytes that mean something there.
func TestGetOfAllShortBytes(t *testing.T) {
	good := 0
	l := []string{"", "E", "F"}
	for len(l) > 0 {
		s := l[0]
		l = l[1:]
		if compare(t, s) {
			good++
		}
		if s != "" && len(s) < 6 {
			for _, b := range []int{0, 1, 2, 3, 4, 'E', 'a', 'b'} {
				l = append(l, bytesOf(s, b))
			}
		}
	}
	// With one name of one letter: 4 events of a flag, 2 of an empty text, 2 filters of Any; 4 more of Any with two letters.
	if good != 12 {
		t.Errorf("P4: of all the short bytes, %d are an event or a filter, want 12", good)
	}
}

func TestGetOfNothing(t *testing.T) {
	for _, s := range []string{"", "\x00", "E", "F", "E\x00", "F\x00", "E\x01", "F\x01", "E\xff", "F\xff", "EE", "FF", "up", "\xff\xff", long(100000), strings.Repeat("E", 9000), strings.Repeat("F", 9000), strings.Repeat("\x00", 9000), strings.Repeat("\xff", 9000)} {
		refused(t, s)
	}
	for b := range 256 {
		s := bytesOf(b, 1, 2, "up", 3, 1)
		if b != 69 {
			refused(t, s)
		}
		if s = bytesOf(b, 1, 2, "up", 1); b != 70 {
			refused(t, s)
		}
	}
}

func TestGetWithWrongCounts(t *testing.T) {
	for n := range 12 {
		attrs, wants := "", ""
		for i := range n {
			attrs += bytesOf(1, 'a'+i, 3, 1)
			wants += bytesOf(1, "a", 1)
		}
		for count := range 256 {
			e, k := wire.GetEvent(bytesOf(69, count, attrs))
			if good := count == n && n >= 1 && n <= maxAttrs; (k == api.OK) != good || good && len(e) != n || !good && (e != nil || k != api.ErrBytes) {
				t.Errorf("P4: GetEvent of %d attributes with the count %d: %+v, %d", n, count, e, k)
			}
			f, k := wire.GetFilter(bytesOf(70, count, wants))
			if good := count == n && n >= 1 && n <= maxWants; (k == api.OK) != good || good && len(f) != n || !good && (f != nil || k != api.ErrBytes) {
				t.Errorf("P4: GetFilter of %d wants with the count %d: %+v, %d", n, count, f, k)
			}
		}
	}
	many := strings.Repeat(bytesOf(1, "a", 1), 255)
	refused(t, bytesOf(70, 255, many))
	refused(t, bytesOf(70, 255, many, many))
}

func TestGetWithWrongKinds(t *testing.T) {
	for kind := range 256 {
		for _, tail := range []string{"", "\x00", "\x01", "\x01x", numberBytes(0), numberBytes(1), "\x02"} {
			value := bytesOf(kind, tail)
			_, _, good := cutValue(value)
			good = good && (kind != api.Text || tail == "\x00" || tail == "\x01x") && (kind != api.Flag || len(tail) == 1)
			if e, k := wire.GetEvent(bytesOf(69, 1, 1, "a", value)); (k == api.OK) != good || !good && (e != nil || k != api.ErrBytes) {
				t.Errorf("P4: GetEvent with the value %q: %+v, %d", value, e, k)
			}
			if f, k := wire.GetFilter(bytesOf(70, 1, 1, "a", 2, value)); (k == api.OK) != good || !good && (f != nil || k != api.ErrBytes) {
				t.Errorf("P4: GetFilter with the value %q: %+v, %d", value, f, k)
			}
		}
	}
	for b := 2; b < 256; b++ {
		refused(t, bytesOf(69, 1, 2, "up", 3, b))
		refused(t, bytesOf(70, 1, 2, "up", 2, 3, b))
	}
}

// TestGetWithWrongWays: each way with a value of each kind, and with none; a kind is allowed where its letter stands.
func TestGetWithWrongWays(t *testing.T) {
	values := map[rune]string{'0': "", 'i': bytesOf(1, numberBytes(-7)), 't': bytesOf(2, 1, "x"), 'f': bytesOf(3, 1)}
	kinds := map[int]string{1: "0", 2: "itf", 3: "itf", 4: "i", 5: "i", 6: "i", 7: "i", 8: "t", 9: "t", 10: "t"}
	for way := range 256 {
		for letter, value := range values {
			s := bytesOf(70, 1, 1, "a", way, value)
			good := strings.ContainsRune(kinds[way], letter)
			if f, k := wire.GetFilter(s); (k == api.OK) != good || !good && (f != nil || k != api.ErrBytes) {
				t.Errorf("P4: GetFilter(%q) = %+v, %d", s, f, k)
			}
		}
	}
}

func TestGetWithWrongNames(t *testing.T) {
	for _, name := range badNames() {
		refused(t, bytesOf(69, 1, len(name), name, 3, 1))
		refused(t, bytesOf(70, 1, len(name), name, 1))
	}
	for b := range 256 {
		if b < 'a' || b > 'z' {
			refused(t, bytesOf(69, 1, 3, "q", b, "q", 3, 1))
			refused(t, bytesOf(70, 1, 3, "q", b, "q", 1))
		}
	}
	for _, names := range [][2]string{{"a", "a"}, {"b", "a"}, {"ab", "a"}, {"b", "ab"}, {long(16), long(15)}, {long(16), long(16)}} {
		refused(t, bytesOf(69, 2, len(names[0]), names[0], 3, 1, len(names[1]), names[1], 3, 1))
		s := bytesOf(70, 2, len(names[0]), names[0], 1, len(names[1]), names[1], 1)
		if f, k := wire.GetFilter(s); len(f) != 2 || k != api.OK {
			t.Errorf("P4: GetFilter(%q) = %+v, %d: the names of wants need not rise", s, f, k)
		}
	}
}

func TestGetOfTooLong(t *testing.T) {
	for n := range 256 {
		s := bytesOf(69, 1, 1, "a", 2, n, long(n))
		if e, k := wire.GetEvent(s); (k == api.OK) != (n <= maxText) || k != api.OK && (e != nil || k != api.ErrBytes) {
			t.Errorf("P4: GetEvent of a text of %d bytes: %+v, %d", n, e, k)
		}
		s = bytesOf(70, 1, n, long(n), 9, 2, n, long(n))
		if f, k := wire.GetFilter(s); (k == api.OK) != (n >= 1 && n <= maxName) || k != api.OK && (f != nil || k != api.ErrBytes) {
			t.Errorf("P4: GetFilter of a name and a text of %d bytes: %+v, %d", n, f, k)
		}
	}
}
