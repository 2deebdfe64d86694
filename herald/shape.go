package herald

import "herald/api"

// isTree tells whether the edges are those of a tree. As many as brokers less one reach all of them just if each joins two parts
// that were apart until then.
func isTree(brokers int, edges [][2]int) bool {
	if brokers < 1 || brokers > api.MaxBrokers || len(edges) != brokers-1 {
		return false
	}
	part := make([]int, brokers)
	for b := range part {
		part[b] = b
	}
	for _, e := range edges {
		if min(e[0], e[1]) < 0 || max(e[0], e[1]) >= brokers {
			return false
		}
		one, other := part[e[0]], part[e[1]]
		if one == other {
			return false
		}
		for b := range part {
			if part[b] == other {
				part[b] = one
			}
		}
	}
	return true
}

func (t *Tree) hasBroker(b int) bool { return b >= 0 && b < len(t.held) }

func (t *Tree) hasLink(from, to int) bool {
	_, there := t.links[[2]int{from, to}]
	return there
}

// neighbours gives those of a broker, by their numbers.
func (t *Tree) neighbours(b int) []int {
	var l []int
	for n := range t.held {
		if t.hasLink(b, n) {
			l = append(l, n)
		}
	}
	return l
}
