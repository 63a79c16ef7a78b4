package tree

import "iter"

// span is what a loop goes over: the keys from one on, up to another one ("": to the end).
type span struct {
	from, to string
	falling  bool
}

// walk goes over the keys of a span that are in n, which may be nil, and under it. A node's kids and items stand in turn: kid i at the place 2i, item i at the place 2i + 1; so rising and falling are the same places.
func (n *node[V]) walk(s span) iter.Seq2[string, V] {
	return func(yield func(string, V) bool) {
		if n == nil {
			return
		}
		// Taken once: a loop that changes the tree against the rule still ends, and finds each place.
		items, kids := n.items, n.kids
		first, last := n.ends(s)
		for i := range last - first + 1 {
			place := first + i
			if s.falling {
				place = last - i
			}
			switch {
			case place%2 == 1:
				it := items[place/2]
				if !yield(it.key, it.value) {
					return
				}
			case len(kids) > 0:
				for key, v := range kids[place/2].walk(s) {
					if !yield(key, v) {
						return
					}
				}
			}
		}
	}
}

// ends are the places of the kids in which a span begins and ends; the first stands behind the last only if the span has no keys.
func (n *node[V]) ends(s span) (int, int) {
	first, _ := n.find(s.from)
	last := len(n.items)
	if s.to != "" {
		last, _ = n.find(s.to)
	}
	return 2 * first, 2 * last
}
