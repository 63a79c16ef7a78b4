package tree

import (
	"slices"
	"strings"
)

// How many items a node has at most, and, but for the root, at least. One more than most is enough for two nodes and an item between them; and one less than least, with an item and a node that has none to give, is not too much for one.
const (
	most  = 15
	least = 7
)

type node[V any] struct {
	items []item[V]  // by rising keys
	kids  []*node[V] // one more than items, what is in kid i standing ahead of item i; none: it is a leaf
	size  int        // how many items there are in it and under it, so that Rank and At need not look into the kids that they pass
}

type item[V any] struct {
	key   string
	value V
}

func (n *node[V]) leaf() bool { return len(n.kids) == 0 }

// kid is the one at a place; a leaf has nil at all of them, as if there were a floor of nothing under it.
func (n *node[V]) kid(i int) *node[V] {
	if n.leaf() {
		return nil
	}
	return n.kids[i]
}

// count is how many items there are in n, which may be nil, and under it.
func (n *node[V]) count() int {
	if n == nil {
		return 0
	}
	return n.size
}

// recount is for a node that has got or lost more than one item.
func (n *node[V]) recount() {
	n.size = len(n.items)
	for _, kid := range n.kids {
		n.size += kid.size
	}
}

// find tells at which place a key stands among the items, or would stand: then it can be nowhere but in the kid of that place.
func (n *node[V]) find(key string) (int, bool) {
	return slices.BinarySearchFunc(n.items, key, func(it item[V], key string) int {
		return strings.Compare(it.key, key)
	})
}

// ahead is how many items there are ahead of the kid at a place.
func (n *node[V]) ahead(place int) int {
	sum := place
	for i := range place {
		sum += n.kid(i).count()
	}
	return sum
}

// at is the item that has k others below it in n and under it, of which there must be more than k.
func (n *node[V]) at(k int) item[V] {
	i := 0
	for k > n.kid(i).count() {
		k -= n.kid(i).count() + 1
		i++
	}
	if k < n.kid(i).count() {
		return n.kid(i).at(k)
	}
	return n.items[i]
}

// put lets a key have a value, and tells the one that it had. It may leave n with an item too many: whoever has called makes two of it.
func (n *node[V]) put(key string, v V) (V, bool) {
	var old V
	i, there := n.find(key)
	switch {
	case there:
		old, n.items[i].value = n.items[i].value, v
		return old, true
	case n.leaf():
		n.items = slices.Insert(n.items, i, item[V]{key: key, value: v})
	default:
		old, there = n.kids[i].put(key, v)
		if len(n.kids[i].items) > most {
			n.split(i)
		}
	}
	if !there {
		n.size++
	}
	return old, there
}

// split makes two of the kid at a place, and lets the item between them stand in n.
func (n *node[V]) split(place int) {
	left, right := n.kids[place], &node[V]{}
	middle := left.items[least]
	right.items = slices.Clone(left.items[least+1:])
	left.items = slices.Delete(left.items, least, len(left.items))
	if !left.leaf() {
		right.kids = slices.Clone(left.kids[least+1:])
		left.kids = slices.Delete(left.kids, least+1, len(left.kids))
	}
	left.recount()
	right.recount()
	n.items = slices.Insert(n.items, place, middle)
	n.kids = slices.Insert(n.kids, place+1, right)
}

// above is a root over one that has an item too many, with two nodes in its stead.
func above[V any](n *node[V]) *node[V] {
	root := &node[V]{kids: []*node[V]{n}, size: n.size}
	root.split(0)
	return root
}
