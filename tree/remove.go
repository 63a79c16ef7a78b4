package tree

import "slices"

// remove takes a key away, and tells the value that it had. It may leave n with an item too few: whoever has called mends it.
func (n *node[V]) remove(key string) (V, bool) {
	var old V
	i, there := n.find(key)
	switch {
	case there && n.leaf():
		old = n.items[i].value
		n.items = slices.Delete(n.items, i, i+1)
	case there:
		// The kids at its sides must stay apart: the item that is next below it comes in its place.
		old = n.items[i].value
		n.items[i] = n.kids[i].removeLast()
		n.mend(i)
	case n.leaf():
		return old, false
	default:
		old, there = n.kids[i].remove(key)
		n.mend(i)
	}
	if there {
		n.size--
	}
	return old, there
}

// removeLast takes the greatest key away, with its value. It may leave n with an item too few, as remove does.
func (n *node[V]) removeLast() item[V] {
	n.size--
	end := len(n.items) - 1
	if n.leaf() {
		last := n.items[end]
		n.items = slices.Delete(n.items, end, end+1)
		return last
	}
	last := n.kids[end+1].removeLast()
	n.mend(end + 1)
	return last
}

// mend gives the kid at a place an item from beside it, if it has too few; or makes one of it and a kid beside it, if neither of those has one to give.
func (n *node[V]) mend(place int) {
	switch {
	case len(n.kids[place].items) >= least:
	case place > 0 && len(n.kids[place-1].items) > least:
		n.shiftUp(place - 1)
	case place < len(n.items) && len(n.kids[place+1].items) > least:
		n.shiftDown(place)
	case place > 0:
		n.join(place - 1)
	default:
		n.join(place)
	}
}

// shiftUp moves on by one item: the last of the kid at a place comes behind that kid, and what stood there comes first in the next kid.
func (n *node[V]) shiftUp(place int) {
	left, right := n.kids[place], n.kids[place+1]
	end := len(left.items) - 1
	right.items = slices.Insert(right.items, 0, n.items[place])
	n.items[place] = left.items[end]
	left.items = slices.Delete(left.items, end, end+1)
	if !left.leaf() {
		right.kids = slices.Insert(right.kids, 0, left.kids[end+1])
		left.kids = slices.Delete(left.kids, end+1, end+2)
	}
	left.recount()
	right.recount()
}

// shiftDown is the same the other way: the first of the next kid comes behind the kid at a place, and what stood there comes last in that kid.
func (n *node[V]) shiftDown(place int) {
	left, right := n.kids[place], n.kids[place+1]
	left.items = append(left.items, n.items[place])
	n.items[place] = right.items[0]
	right.items = slices.Delete(right.items, 0, 1)
	if !right.leaf() {
		left.kids = append(left.kids, right.kids[0])
		right.kids = slices.Delete(right.kids, 0, 1)
	}
	left.recount()
	right.recount()
}

// join makes one of the kid at a place, the item behind it and the next kid.
func (n *node[V]) join(place int) {
	left, right := n.kids[place], n.kids[place+1]
	left.items = append(left.items, n.items[place])
	left.items = append(left.items, right.items...)
	left.kids = append(left.kids, right.kids...)
	left.recount()
	n.items = slices.Delete(n.items, place, place+1)
	n.kids = slices.Delete(n.kids, place+1, place+2)
}
