package herald_test

import (
	"math"
	"math/rand"
	"slices"
	"testing"

	"herald/api"
	"herald/herald"
)

// isTree is P5's words: as many edges as brokers less one, each of two brokers' numbers, and each broker reaches each.
func isTree(brokers int, edges [][2]int) bool {
	if brokers < 1 || brokers > maxBrokers || len(edges) != brokers-1 {
		return false
	}
	for _, e := range edges {
		if e[0] < 0 || e[0] >= brokers || e[1] < 0 || e[1] >= brokers {
			return false
		}
	}
	for b := range brokers {
		if reached(b, edges) != brokers {
			return false
		}
	}
	return true
}

func reached(b int, edges [][2]int) int {
	l := []int{b}
	for i := 0; i < len(l); i++ {
		for _, e := range edges {
			for way := range 2 {
				if e[way] == l[i] && !slices.Contains(l, e[1-way]) {
					l = append(l, e[1-way])
				}
			}
		}
	}
	return len(l)
}

func checkNew(t *testing.T, brokers int, edges [][2]int) {
	t.Helper()
	wanted := api.ErrTree
	if isTree(brokers, edges) {
		wanted = api.OK
	}
	x, k := herald.New(brokers, edges)
	if k != wanted || (x != nil) != (k == api.OK) {
		t.Fatalf("P5: New(%d, %v): %v, %d, want %d", brokers, edges, x, k, wanted)
	}
	if x != nil {
		checkEmpty(t, x, brokers, edges)
	}
}

// checkEmpty: a new tree has just the links of its edges, and nothing in it.
func checkEmpty(t *testing.T, x *herald.Tree, brokers int, edges [][2]int) {
	t.Helper()
	var links []api.Link
	for from := range brokers {
		for to := range brokers {
			if slices.Contains(edges, [2]int{from, to}) || slices.Contains(edges, [2]int{to, from}) {
				links = append(links, api.Link{From: from, To: to})
			}
		}
	}
	if l := x.Links(); !slices.Equal(l, links) {
		t.Fatalf("P10: Links of %v: %v", edges, l)
	}
	for b := range brokers {
		isHeld(t, x, b, -1)
	}
	if n := x.Drain(); n != 0 {
		t.Fatalf("P9: Drain of a new tree: %d", n)
	}
}

func TestNewHowMany(t *testing.T) {
	for brokers := -3; brokers <= maxBrokers+4; brokers++ {
		for n := range maxBrokers + 5 {
			checkNew(t, brokers, row(n))
			checkNew(t, brokers, star(n, n/2))
		}
		checkNew(t, brokers, append(row(max(brokers, 1)), [2]int{0, 0}))
		checkNew(t, brokers, append(row(max(brokers, 1)), [2]int{0, 1}))
	}
	for _, brokers := range oddNumbers() {
		checkNew(t, brokers, nil)
		checkNew(t, brokers, row(maxBrokers))
	}
	checkNew(t, 1, [][2]int{})
	checkNew(t, maxBrokers, make([][2]int, 100000))
}

// TestNewEveryEdge: up to four brokers, every list of edges as long as it must be, of numbers from one too low to one too high.
func TestNewEveryEdge(t *testing.T) {
	for brokers := 1; brokers <= 4; brokers++ {
		trees, span := 0, brokers+2
		edges := make([][2]int, brokers-1)
		all := 1
		for range 2 * len(edges) {
			all *= span
		}
		for i := range all {
			for j := range edges {
				edges[j] = [2]int{i%span - 1, i/span%span - 1}
				i /= span * span
			}
			checkNew(t, brokers, edges)
			if isTree(brokers, edges) {
				trees++
			}
		}
		// There are n to the power of n-2 trees on n brokers; their edges stand in any order, and each either way.
		if wanted := []int{0, 1, 1 * 1 * 2, 3 * 2 * 4, 16 * 6 * 8}[brokers]; trees != wanted {
			t.Errorf("P5: %d lists of edges are trees of %d brokers, want %d", trees, brokers, wanted)
		}
	}
}

func TestNewWrongEdges(t *testing.T) {
	for what, edges := range map[string][][2]int{
		"an edge to itself":               {{0, 1}, {1, 2}, {2, 2}},
		"an edge to itself, and first":    {{0, 0}, {1, 2}, {2, 3}},
		"the same edge twice":             {{0, 1}, {2, 3}, {0, 1}},
		"the same edge the other way":     {{0, 1}, {2, 3}, {1, 0}},
		"a ring, and one by itself":       {{0, 1}, {1, 2}, {2, 0}},
		"a ring without the first":        {{1, 2}, {2, 3}, {3, 1}},
		"too few":                         {{0, 1}, {1, 2}},
		"too many":                        {{0, 1}, {1, 2}, {2, 3}, {3, 0}},
		"too many, one of them twice":     {{0, 1}, {1, 2}, {2, 3}, {2, 3}},
		"a broker one too high":           {{0, 1}, {1, 2}, {2, 4}},
		"a broker below 0":                {{0, 1}, {1, 2}, {-1, 3}},
		"brokers that would be if cut":    {{0, 1}, {1, 2}, {2, 1<<32 + 3}},
		"brokers far off":                 {{0, 1}, {1, 2}, {math.MinInt, math.MaxInt}},
		"brokers far off, in place of it": {{math.MaxInt, 1}, {1, 2}, {2, 3}},
		"none at all":                     nil,
	} {
		if x, k := herald.New(4, edges); x != nil || k != api.ErrTree {
			t.Errorf("P5: New with %s: %v, %d", what, x, k)
		}
	}
}

func TestNewRandomTrees(t *testing.T) {
	r := rand.New(rand.NewSource(1))
	for range 2000 {
		brokers := 1 + r.Intn(maxBrokers)
		edges := randomTree(r, brokers)
		checkNew(t, brokers, edges)
		// With one end moved it may be a tree or not.
		if brokers > 1 {
			edges[r.Intn(len(edges))][r.Intn(2)] = r.Intn(brokers)
			checkNew(t, brokers, edges)
		}
	}
}

func TestAttachBroker(t *testing.T) {
	for brokers := 1; brokers <= maxBrokers; brokers++ {
		x := made(t, brokers, row(brokers))
		for b := -3; b <= maxBrokers+3; b++ {
			wanted := api.ErrNone
			if b >= 0 && b < brokers {
				wanted = api.OK
			}
			isErr(t, "P5: Attach", x.Attach(b, b), wanted)
		}
		for _, b := range oddNumbers() {
			if b < 0 || b >= brokers {
				isErr(t, "P5: Attach at no broker", x.Attach(99, b), api.ErrNone)
			}
		}
		isErr(t, "P5: Attach after all that", x.Attach(99, brokers-1), api.OK)
		subscribe(t, x, 99, 0, more(1))
		isHeld(t, x, brokers-1, -1, key(99, 0))
	}
}

func TestAttachAnyNumberUpToTheLimit(t *testing.T) {
	x := made(t, 3, row(3))
	clients := append(oddNumbers(), 0, 1, 2, 3)
	if len(clients) != maxClients {
		t.Fatalf("the test needs %d clients: %d", maxClients, len(clients))
	}
	for i, c := range clients {
		isErr(t, "P5: Attach", x.Attach(c, i%3), api.OK)
		for b := range 3 {
			isErr(t, "P5: Attach twice", x.Attach(c, b), api.ErrTwice)
		}
	}
	for _, c := range []int{4, -3, math.MinInt + 2} {
		isErr(t, "P5: Attach, one more", x.Attach(c, 0), api.ErrFull)
		isErr(t, "P6: Subscribe of one who found no room", x.Subscribe(c, 1, more(1)), api.ErrNone)
	}
	for i, c := range clients {
		subscribe(t, x, c, c, equal(i))
	}
	for b := range 3 {
		l, _ := x.Held(b, -1)
		for i, c := range clients {
			if slices.Contains(l, key(c, c)) != (i%3 == b) {
				t.Errorf("P5: the client %d is not where it was attached: %v at %d", c, l, b)
			}
		}
	}
}

// TestAttachFirstError: of several errors the one that P5 names first.
func TestAttachFirstError(t *testing.T) {
	x := made(t, 2, row(2))
	attach(t, x, 0, 1)
	isErr(t, "P5: Attach at no broker, twice", x.Attach(1, 2), api.ErrNone)
	attach(t, x, 1, 2, 3, 4, 5, 6, 7, 8, 9, 10, 11, 12, 13, 14, 15, 16)
	isErr(t, "P5: Attach at no broker, without room", x.Attach(17, -1), api.ErrNone)
	isErr(t, "P5: Attach at no broker, twice, without room", x.Attach(1, -1), api.ErrNone)
	isErr(t, "P5: Attach twice, without room", x.Attach(1, 1), api.ErrTwice)
	isErr(t, "P5: Attach without room", x.Attach(17, 1), api.ErrFull)
}
